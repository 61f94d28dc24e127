"""How often the hand stands in a stretch, by sums of rounded quotients."""

from gaphand.whole import check_beats, check_place, greatest


def slanted(many, step, start, size):
    total = 0
    while many > 0:
        total = total + many * (many - 1) // 2 * (step // size) + many * (start // size)
        step = step % size
        start = start % size
        # What is left counts the points with whole numbers below a slanted line. Counted
        # along its other side they are such a sum again, with step and size changed over.
        top = start + many * step
        many = top // size
        start = top % size
        slope = step
        step = size
        size = slope
    return total


def count_in(wheel, many, low, high):
    check_beats("the number of beats", many, 0, greatest())
    check_place(wheel, low)
    check_place(wheel, high)
    wide = (high - low) % wheel.size + 1
    start = wheel.start - low
    # A beat is in the stretch just where going back by its width changes the quotient.
    return slanted(many, wheel.step, start, wheel.size) - slanted(many, wheel.step, start - wide, wheel.size)
