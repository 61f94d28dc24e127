"""How near the hand comes to a place, and when it first comes into a stretch."""

from gaphand.rounds import Neighbours
from gaphand.wheels import common
from gaphand.whole import check_beats, check_place, greatest


def nearing(wheel, place):
    check_place(wheel, place)
    rows = []
    beat = 0
    far = (place - wheel.start) % wheel.size
    # No two places of the hand are less than this apart, so below it nothing comes nearer.
    least = common(wheel.size, wheel.step)
    zero = Neighbours(wheel)
    while far >= least:
        draw_within(zero, far)
        times = far // zero.near
        rows.append((beat, far, zero.ahead, zero.near, times))
        beat = beat + times * zero.ahead
        far = far - times * zero.near
    return rows


def draw_within(zero, far):
    # The next near beat comes as many beats later as the hand needs to go on by far
    # places at most, and by one at least: the first ahead whose near is within far.
    while zero.near > far:
        if zero.near > zero.back:
            zero.draw_ahead(rounded_up(zero.near - far, zero.back))
        else:
            zero.draw_behind(zero.back)


def rounded_up(number, divisor):
    return -(-number // divisor)


def nearest(wheel, many, place):
    check_beats("the number of beats", many, 1, greatest())
    found = 0
    for beat, far, on, less, times in nearing(wheel, place):
        if beat < many:
            found = beat + min(times, (many - 1 - beat) // on) * on
    return found


def first_in(wheel, low, high):
    check_place(wheel, low)
    check_place(wheel, high)
    # The first beat in the stretch is less far from high than each beat ahead of it,
    # as those are not in the stretch: so it is a near beat of high.
    wide = (high - low) % wheel.size
    if (high - wheel.start) % wheel.size <= wide:
        return 0
    for beat, far, on, less, times in nearing(wheel, high):
        if far - times * less <= wide:
            return beat + rounded_up(far - wide, less) * on
    return None
