import copy
import unittest

from gaphand.errors import HandError, NoWheel
from gaphand.wheels import Wheel

from samples import GREATEST, fields, no_numbers


def followed_lap(size, step):
    """The beats, from 1 on, until the hand stands where it began, by following it."""
    place = step % size
    beat = 1
    while place != 0:
        place = (place + step) % size
        beat = beat + 1
    return beat


class Kept(unittest.TestCase):
    def check(self, handed, told):
        wheel = Wheel(*handed)
        self.assertEqual(fields(wheel), told, handed)
        for value in fields(wheel):
            self.assertIs(type(value), int)

    def test_within_the_size(self):
        self.check((12, 5, 3), (12, 5, 3, 12))
        self.check((12, 11, 11), (12, 11, 11, 12))
        self.check((12, 0, 0), (12, 0, 0, 1))

    def test_below_nothing(self):
        self.check((12, -1, -1), (12, 11, 11, 12))
        self.check((12, -5, -7), (12, 7, 5, 12))
        self.check((12, -12, -12), (12, 0, 0, 1))
        self.check((12, -13, -25), (12, 11, 11, 12))

    def test_at_and_above_the_size(self):
        self.check((12, 12, 12), (12, 0, 0, 1))
        self.check((12, 13, 14), (12, 1, 2, 12))
        self.check((12, 100, 1000), (12, 4, 4, 3))

    def test_a_wheel_of_one_place(self):
        for step in (0, 1, -1, 5, GREATEST, -GREATEST):
            for start in (0, 1, -1, 5, GREATEST, -GREATEST):
                self.check((1, step, start), (1, 0, 0, 1))

    def test_the_greatest_size(self):
        last = GREATEST - 1
        self.check((GREATEST, 0, 0), (GREATEST, 0, 0, 1))
        self.check((GREATEST, GREATEST, GREATEST), (GREATEST, 0, 0, 1))
        self.check((GREATEST, -GREATEST, -GREATEST), (GREATEST, 0, 0, 1))
        self.check((GREATEST, last, last), (GREATEST, last, last, GREATEST))
        self.check((GREATEST, -last, -last), (GREATEST, 1, 1, GREATEST))

    def test_step_and_start_at_their_bounds(self):
        self.check((7, GREATEST, GREATEST), (7, 1, 1, 7))
        self.check((7, -GREATEST, -GREATEST), (7, 6, 6, 7))
        self.check((7, GREATEST, -GREATEST), (7, 1, 6, 7))
        self.check((GREATEST - 1, GREATEST, -GREATEST), (GREATEST - 1, 1, GREATEST - 2, GREATEST - 1))

    def test_start_left_out_or_by_name(self):
        self.assertEqual(fields(Wheel(12, 5)), (12, 5, 0, 12))
        self.assertEqual(fields(Wheel(12, 5, start=15)), (12, 5, 3, 12))
        self.assertEqual(fields(Wheel(size=12, step=-5, start=-3)), (12, 7, 9, 12))

    def test_kept_step_and_start_differ_by_multiples_of_the_size(self):
        for size in range(1, 10):
            for handed in range(-30, 31):
                wheel = Wheel(size, handed, handed + 1)
                self.assertEqual(wheel.size, size)
                for value, before in ((wheel.step, handed), (wheel.start, handed + 1)):
                    self.assertTrue(0 <= value < size)
                    self.assertEqual((value - before) % size, 0)

    def test_wheels_keep_apart(self):
        one = Wheel(12, 5, 3)
        other = Wheel(10, 4, 1)
        self.assertEqual(fields(one), (12, 5, 3, 12))
        self.assertEqual(fields(other), (10, 4, 1, 5))


class Lap(unittest.TestCase):
    def test_step_nothing(self):
        for size in (1, 2, 12, GREATEST):
            self.assertEqual(Wheel(size, 0).lap, 1)

    def test_a_shared_divisor(self):
        self.assertEqual(Wheel(12, 8).lap, 3)
        self.assertEqual(Wheel(12, 6, 5).lap, 2)
        self.assertEqual(Wheel(100, 75).lap, 4)
        self.assertEqual(Wheel(GREATEST, 10 ** 59).lap, 10)
        self.assertEqual(Wheel(GREATEST, 6 ** 60).lap, 5 ** 60)

    def test_no_shared_divisor(self):
        self.assertEqual(Wheel(12, 7).lap, 12)
        self.assertEqual(Wheel(GREATEST, 3 ** 125, 1).lap, GREATEST)
        self.assertEqual(Wheel(10 ** 59 + 1, 10 ** 59).lap, 10 ** 59 + 1)

    def test_against_following_the_hand(self):
        for size in range(1, 31):
            for step in range(-size - 2, 2 * size + 3):
                for start in (0, 1, -3):
                    self.assertEqual(Wheel(size, step, start).lap, followed_lap(size, step), (size, step))


class Refused(unittest.TestCase):
    def refused(self, *handed):
        for kind in (NoWheel, HandError, ValueError):
            with self.assertRaises(kind):
                Wheel(*handed)
        with self.assertRaises(NoWheel) as taken:
            Wheel(*handed)
        self.assertIs(type(taken.exception), NoWheel)

    def test_sizes(self):
        for size in (0, -1, -12, -GREATEST, GREATEST + 1, 10 ** 61, 10 ** 5000, -10 ** 5000):
            self.refused(size, 5)
            self.refused(size, 5, 3)

    def test_steps(self):
        for step in (GREATEST + 1, -GREATEST - 1, 10 ** 5000, -10 ** 5000):
            self.refused(12, step)
            self.refused(GREATEST, step, 3)

    def test_starts(self):
        for start in (GREATEST + 1, -GREATEST - 1, 10 ** 5000, -10 ** 5000):
            self.refused(12, 5, start)
            self.refused(GREATEST, 0, start)
            with self.assertRaises(NoWheel):
                Wheel(12, 5, start=start)

    def test_what_is_no_number(self):
        for value in no_numbers():
            self.refused(value, 5)
            self.refused(value, 5, 3)
            self.refused(12, value)
            self.refused(12, value, 3)
            self.refused(12, 5, value)
            self.refused(1, 0, value)
            self.refused(value, value, value)

    def test_nothing_handed_in_is_changed(self):
        for value in ([1, [2]], {1: [2]}, (1, [2])):
            before = copy.deepcopy(value)
            self.refused(value, 5, 3)
            self.refused(12, value, 3)
            self.refused(12, 5, value)
            self.assertEqual(value, before)
        wheel = Wheel(12, 5, 3)
        self.refused(wheel, wheel, wheel)
        self.assertEqual(fields(wheel), (12, 5, 3, 12))


if __name__ == "__main__":
    unittest.main()
