import unittest

from gaphand.counts import count_in
from gaphand.near import nearest, nearing
from gaphand.wheels import Wheel

from samples import GREATEST, fields, great_wheels, greater_wheels, small_wheels, some_manys, walked


def followed(wheel, many, place):
    """The first beat of those that are least far, among the first one, two and so on up to many beats."""
    told = []
    found, least = 0, wheel.size
    for beat, stands in enumerate(walked(wheel, many)):
        far = (place - stands) % wheel.size
        if far < least:
            found, least = beat, far
        told.append(found)
    return told


class Nearest(unittest.TestCase):
    def test_ordinary(self):
        # The places are 3, 8, 1, 6, 11, 4, 9, 2, 7, 0, 5, 10.
        wheel = Wheel(12, 5, 3)
        self.assertEqual([nearest(wheel, many, 10) for many in (1, 2, 6, 7, 11, 12, 100)], [0, 1, 1, 6, 6, 11, 11])
        self.assertEqual(nearest(wheel=wheel, many=7, place=10), 6)
        self.assertIs(type(nearest(wheel, 7, 10)), int)

    def test_against_all_beats(self):
        for wheel in small_wheels(range(1, 25), (0, 5)):
            for place in range(wheel.size):
                told = followed(wheel, 2 * wheel.lap + 2, place)
                answers = [nearest(wheel, many, place) for many in range(1, len(told) + 1)]
                self.assertEqual(answers, told, (fields(wheel), place))

    def test_far_above_the_lap(self):
        for wheel in small_wheels(range(1, 25), (0, 3)):
            for place in range(wheel.size):
                told = followed(wheel, wheel.lap, place)[-1]
                for many in (wheel.lap, 10 ** 30, GREATEST - 1, GREATEST):
                    self.assertEqual(nearest(wheel, many, place), told, (fields(wheel), many, place))

    def test_one_beat(self):
        for wheel in great_wheels():
            for place in (0, wheel.start, wheel.size - 1):
                self.assertEqual(nearest(wheel, 1, place), 0)

    def test_each_end_of_a_row(self):
        for wheel in greater_wheels():
            for place in (0, 7 ** 69 % wheel.size, wheel.size - 1):
                for beat, far, on, less, times in nearing(wheel, place):
                    self.assertEqual(nearest(wheel, beat + 1, place), beat)
                    self.assertEqual(nearest(wheel, beat + on, place), beat)
                    self.assertEqual(nearest(wheel, beat + on + 1, place), beat + on)
                    self.assertEqual(nearest(wheel, beat + times * on, place), beat + (times - 1) * on)
                    self.assertEqual(nearest(wheel, beat + times * on + 1, place), beat + times * on)

    def test_no_beat_of_great_wheels_is_nearer(self):
        for wheel in greater_wheels() + great_wheels():
            for many in some_manys(wheel) + [GREATEST]:
                for place in (0, 1 % wheel.size, 7 ** 69 % wheel.size, wheel.size - 1):
                    words = (fields(wheel), many, place)
                    beat = nearest(wheel, many, place)
                    self.assertTrue(0 <= beat < many, words)
                    far = (place - wheel.place(beat)) % wheel.size
                    # Of the beats as near, this one comes first, and none is nearer.
                    self.assertEqual(count_in(wheel, beat, (place - far) % wheel.size, place), 0, words)
                    if far > 0:
                        self.assertEqual(count_in(wheel, many, (place - far + 1) % wheel.size, place), 0, words)


if __name__ == "__main__":
    unittest.main()
