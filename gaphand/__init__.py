"""Gaphand: a hand that steps round a wheel, and the gaps it leaves."""
