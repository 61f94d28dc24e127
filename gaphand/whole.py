"""What counts as a whole number, how far the numbers that are handed in may go, and their refusals."""

from gaphand.errors import NoBeats, NoPlace

# The words of a refusal leave out what was handed in: a value of any kind, or a
# number of thousands of figures, may fail to be shown, and that would hide the refusal.


def greatest():
    return 10 ** 60


def is_whole(value, least, most):
    # To Python, True and False are ints as well; here they are no numbers.
    if isinstance(value, bool) or not isinstance(value, int):
        return False
    return least <= value <= most


def check_beats(what, value, least, most):
    if not is_whole(value, least, most):
        raise NoBeats(f"{what} is no whole number from {least} to {most}")


def check_place(wheel, place):
    if not is_whole(place, 0, wheel.size - 1):
        raise NoPlace("the wheel has no such place: places are whole numbers from 0 to the size less 1")
