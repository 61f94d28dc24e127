import unittest

from gaphand.counts import count_in
from gaphand.wheels import Wheel

from samples import GREATEST, fields, great_wheels, greater_wheels, small_wheels, some_manys, walked


def standing(wheel, many, low, high):
    """How many of the beats below each number up to many stand in the stretch, by following the hand."""
    told = [0]
    for place in walked(wheel, many):
        inside = low <= place <= high if low <= high else place >= low or place <= high
        told.append(told[-1] + (1 if inside else 0))
    return told


class CountIn(unittest.TestCase):
    def test_ordinary(self):
        # The places are 3, 8, 1, 6, 11, 4, 9, 2, 7, 0, 5, 10.
        wheel = Wheel(12, 5, 3)
        self.assertEqual(count_in(wheel, 6, 3, 6), 3)
        self.assertEqual(count_in(wheel, 6, 10, 2), 2)
        self.assertEqual(count_in(wheel, 6, 7, 7), 0)
        self.assertEqual(count_in(wheel, 9, 7, 7), 1)
        self.assertEqual(count_in(wheel, 6, 0, 11), 6)
        self.assertEqual(count_in(wheel=wheel, many=6, low=3, high=6), 3)
        self.assertIs(type(count_in(wheel, 6, 3, 6)), int)

    def test_against_following_the_hand(self):
        for wheel in small_wheels(range(1, 15), (0, 5)) + small_wheels(range(15, 19), (4,)):
            for low in range(wheel.size):
                for high in range(wheel.size):
                    told = standing(wheel, wheel.lap + 3, low, high)
                    answers = [count_in(wheel, many, low, high) for many in range(len(told))]
                    self.assertEqual(answers, told, (fields(wheel), low, high))

    def test_each_beat_counts_above_the_lap(self):
        self.assertEqual(count_in(Wheel(12, 0, 7), GREATEST, 7, 7), GREATEST)
        self.assertEqual(count_in(Wheel(12, 0, 7), GREATEST, 8, 6), 0)
        self.assertEqual(count_in(Wheel(1, 0), 5, 0, 0), 5)
        for wheel in small_wheels(range(1, 9), (0, 3)):
            for low in range(wheel.size):
                for high in range(wheel.size):
                    told = standing(wheel, wheel.lap, low, high)
                    for many in (2 * wheel.lap, 5 * wheel.lap + 1, 10 ** 30, GREATEST - 1, GREATEST):
                        laps, left = many // wheel.lap, many % wheel.lap
                        answer = count_in(wheel, many, low, high)
                        self.assertEqual(answer, laps * told[-1] + told[left], (fields(wheel), many, low, high))

    def test_no_beats(self):
        for wheel in great_wheels():
            for low, high in ((0, 0), (0, wheel.size - 1), (wheel.size - 1, 0), (wheel.start, wheel.start)):
                self.assertEqual(count_in(wheel, 0, low, high), 0)

    def test_one_beat(self):
        for wheel in great_wheels():
            self.assertEqual(count_in(wheel, 1, wheel.start, wheel.start), 1)
            ahead, behind = (wheel.start + 1) % wheel.size, (wheel.start - 1) % wheel.size
            self.assertEqual(count_in(wheel, 1, ahead, behind), 0 if wheel.size > 1 else 1)

    def test_the_whole_wheel(self):
        for wheel in great_wheels():
            for many in (0, 1, 7 ** 50, GREATEST):
                for low in (0, wheel.size // 2, wheel.size - 1):
                    self.assertEqual(count_in(wheel, many, low, (low - 1) % wheel.size), many)

    def test_a_lap_over_great_wheels(self):
        for wheel in greater_wheels():
            unit = wheel.size // wheel.lap
            first = wheel.start % unit
            self.assertEqual(count_in(wheel, wheel.lap, first, first + 6 * unit), 7)
            self.assertEqual(count_in(wheel, wheel.lap, first, first + 10 ** 40 * unit - 1), 10 ** 40)
            self.assertEqual(count_in(wheel, wheel.lap, wheel.start, wheel.start), 1)

    def test_few_beats_of_great_wheels(self):
        for wheel in greater_wheels() + great_wheels():
            for low in (0, 7 ** 69 % wheel.size, wheel.size - 1):
                for wide in (0, wheel.size // 10, wheel.size // 2, wheel.size - 1):
                    high = (low + wide) % wheel.size
                    told = standing(wheel, 60, low, high)
                    for many in (0, 1, 2, 17, 60):
                        self.assertEqual(count_in(wheel, many, low, high), told[many], (fields(wheel), low, high))

    def test_one_beat_more(self):
        for wheel in greater_wheels():
            for many in some_manys(wheel):
                many = min(many, GREATEST - 1)
                low, high = 7 ** 69 % wheel.size, 3 ** 123 % wheel.size
                inside = (wheel.place(many) - low) % wheel.size <= (high - low) % wheel.size
                added = count_in(wheel, many + 1, low, high) - count_in(wheel, many, low, high)
                self.assertEqual(added, 1 if inside else 0, (fields(wheel), many))

    def test_stretches_that_part_the_wheel(self):
        wheels = greater_wheels() + great_wheels() + small_wheels(range(1, 9), (2,))
        for wheel in wheels:
            cuts = sorted({cut % wheel.size for cut in (0, 1, 7 ** 69, 3 ** 123, wheel.start, wheel.size // 2)})
            stretches = [(low, (high - 1) % wheel.size) for low, high in zip(cuts, cuts[1:] + cuts[:1])]
            shifted = [((low + 5) % wheel.size, (high + 5) % wheel.size) for low, high in stretches]
            for many in (0, 1, 10, 7 ** 50, wheel.lap, GREATEST):
                for parts in (stretches, shifted):
                    counts = [count_in(wheel, many, low, high) for low, high in parts]
                    self.assertEqual(sum(counts), many, (fields(wheel), many))
                    self.assertTrue(all(count >= 0 for count in counts), (fields(wheel), many))


if __name__ == "__main__":
    unittest.main()
