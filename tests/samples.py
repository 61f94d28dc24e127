"""What several tests hand in: values that are no whole numbers, and wheels."""

from decimal import Decimal
from fractions import Fraction

from gaphand.wheels import Wheel

GREATEST = 10 ** 60


class Unshowable:
    def __repr__(self):
        raise RuntimeError("not to be shown")

    __str__ = __repr__


class Alike:
    """Equal to everything and within all bounds, but no int."""

    def __eq__(self, other):
        return True

    __le__ = __ge__ = __lt__ = __gt__ = __eq__

    def __index__(self):
        return 1

    __int__ = __index__


def no_numbers():
    return [
        None, True, False, "", "1", "seven", (), (1,), (1, 2), [], [1], {}, {1: 1},
        Wheel(12, 5), Wheel(1, 0), 1.0, 0.0, float("nan"), float("inf"), 1j, b"1",
        bytearray(b"1"), {1}, frozenset((1,)), range(3), Fraction(1), Decimal(1),
        object(), int, Wheel, len, lambda: 1, ValueError("1"), Unshowable(), Alike(),
        iter([1]), ..., NotImplemented,
    ]


def great_wheels():
    return [
        Wheel(GREATEST, GREATEST - 1, GREATEST - 1),
        Wheel(GREATEST, 1, -1),
        Wheel(GREATEST, -GREATEST, GREATEST),
        Wheel(GREATEST - 1, GREATEST, -GREATEST),
        Wheel(10 ** 59 + 7, 3 ** 125, 7 ** 70),
        Wheel(2 ** 199, 3 * 2 ** 150, 5 ** 80),
        Wheel(1, GREATEST, -GREATEST),
        Wheel(2, GREATEST - 1, GREATEST - 1),
    ]


def fields(wheel):
    return (wheel.size, wheel.step, wheel.start, wheel.lap)
