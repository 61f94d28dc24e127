"""What several tests hand in: values that are no whole numbers, and wheels."""

from decimal import Decimal
from fractions import Fraction

from gaphand.wheels import Wheel

GREATEST = 10 ** 60


class Unshowable:
    def __repr__(self):
        raise RuntimeError("not to be shown")

    __str__ = __repr__


class Alike:
    """Equal to everything and within all bounds, but no int."""

    def __eq__(self, other):
        return True

    __le__ = __ge__ = __lt__ = __gt__ = __eq__

    def __index__(self):
        return 1

    __int__ = __index__


def no_numbers():
    return [
        None, True, False, "", "1", "seven", (), (1,), (1, 2), [], [1], {}, {1: 1},
        Wheel(12, 5), Wheel(1, 0), 1.0, 0.0, float("nan"), float("inf"), 1j, b"1",
        bytearray(b"1"), {1}, frozenset((1,)), range(3), Fraction(1), Decimal(1),
        object(), int, Wheel, len, lambda: 1, ValueError("1"), Unshowable(), Alike(),
        iter([1]), ..., NotImplemented,
    ]


def great_wheels():
    return [
        Wheel(GREATEST, GREATEST - 1, GREATEST - 1),
        Wheel(GREATEST, 1, -1),
        Wheel(GREATEST, -GREATEST, GREATEST),
        Wheel(GREATEST - 1, GREATEST, -GREATEST),
        Wheel(10 ** 59 + 7, 3 ** 125, 7 ** 70),
        Wheel(2 ** 199, 3 * 2 ** 150, 5 ** 80),
        Wheel(1, GREATEST, -GREATEST),
        Wheel(2, GREATEST - 1, GREATEST - 1),
    ]


def fibonacci_wheel():
    """The wheel that takes the most steps of all its greatness to reckon with."""
    one, other = 1, 1
    while one + other <= GREATEST:
        one, other = other, one + other
    return Wheel(other, one, 12345)


def greater_wheels():
    """Wheels of about sixty figures whose lap is of more than thirty, of many kinds."""
    wheels = [wheel for wheel in great_wheels() if wheel.lap > 10 ** 30] + [fibonacci_wheel()]
    number = 7 ** 71
    for turn in range(12):
        number = (number * 3 ** 120 + turn) % 10 ** 60
        share = (1, 2, 12, 10 ** 9)[turn % 4]
        size = (number // share + 1) * share
        wheels.append(Wheel(size, number * 7 ** 65 % size // share * share, number ** 3 % size))
    return wheels


def small_wheels(sizes, starts):
    return [Wheel(size, step, start) for size in sizes for step in range(size) for start in starts]


def walked(wheel, many):
    """The places of the beats 0 to many - 1, by following the hand."""
    told = []
    place = wheel.start
    for _ in range(many):
        told.append(place)
        place = place + wheel.step
        if place >= wheel.size:
            place = place - wheel.size
    return told


def some_manys(wheel):
    """Numbers of first beats: small, middling and great ones, up to the lap."""
    lap = wheel.lap
    asked = [2, 3, 4, 5, 17, 100, 10 ** 6, 7 ** 30, lap // 10 ** 20, lap // 1000, lap // 3, lap // 2, lap // 2 + 1]
    asked += [lap - 10 ** 6, lap - 2, lap - 1, lap]
    return sorted({many for many in asked if 2 <= many <= lap})


def fields(wheel):
    return (wheel.size, wheel.step, wheel.start, wheel.lap)
