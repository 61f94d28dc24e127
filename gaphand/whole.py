"""What counts as a whole number, and how far the numbers that are handed in may go."""


def greatest():
    return 10 ** 60


def is_whole(value, least, most):
    # To Python, True and False are ints as well; here they are no numbers.
    if isinstance(value, bool) or not isinstance(value, int):
        return False
    return least <= value <= most
