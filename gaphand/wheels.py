"""Wheels, and where their hand stands at a beat."""

from gaphand.errors import NoWheel
from gaphand.whole import check_beats, greatest, is_whole


def common(one, other):
    while other != 0:
        rest = one % other
        one = other
        other = rest
    return one


def check_wheel(size, step, start):
    bound = greatest()
    if not is_whole(size, 1, bound):
        raise NoWheel("the size is no whole number from 1 to 10 ** 60")
    if not is_whole(step, -bound, bound):
        raise NoWheel("the step is no whole number from -10 ** 60 to 10 ** 60")
    if not is_whole(start, -bound, bound):
        raise NoWheel("the start is no whole number from -10 ** 60 to 10 ** 60")


class Wheel:
    def __init__(self, size, step, start=0):
        check_wheel(size, step, start)
        self.size = size
        self.step = step % size
        self.start = start % size
        self.lap = size // common(size, self.step)

    def place(self, beat):
        return self.reached(beat) % self.size

    def turns(self, beat):
        return self.reached(beat) // self.size

    def reached(self, beat):
        check_beats("the beat", beat, 0, greatest())
        return self.start + beat * self.step
