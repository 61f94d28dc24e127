import unittest

from gaphand.counts import count_in
from gaphand.near import first_in
from gaphand.wheels import Wheel

from samples import GREATEST, fields, great_wheels, greater_wheels, small_wheels, walked


def stretch(size, low, high):
    """The places of a stretch, gone over one by one."""
    places = {low}
    while low != high:
        low = low + 1 if low + 1 < size else 0
        places.add(low)
    return places


def followed(beats, places):
    for beat, place in enumerate(beats):
        if place in places:
            return beat
    return None


class FirstIn(unittest.TestCase):
    def test_ordinary(self):
        # The places are 3, 8, 1, 6, 11, 4, 9, 2, 7, 0, 5, 10.
        wheel = Wheel(12, 5, 3)
        self.assertEqual(first_in(wheel, 4, 5), 5)
        self.assertEqual(first_in(wheel, 9, 10), 6)
        self.assertEqual(first_in(wheel=wheel, low=2, high=3), 0)
        self.assertIs(type(first_in(wheel, 4, 5)), int)
        self.assertIs(type(first_in(wheel, 3, 5)), int)

    def test_over_the_end(self):
        wheel = Wheel(12, 5, 3)
        self.assertEqual(first_in(wheel, 11, 0), 4)
        self.assertEqual(first_in(wheel, 10, 2), 2)
        self.assertEqual(first_in(wheel, 4, 2), 1)

    def test_one_place(self):
        wheel = Wheel(12, 5, 3)
        for beat, place in enumerate(walked(wheel, 12)):
            self.assertEqual(first_in(wheel, place, place), beat)

    def test_the_whole_wheel(self):
        for wheel in great_wheels() + small_wheels(range(1, 8), (0, 2)):
            for low in (0, wheel.size // 2, wheel.size - 1, wheel.start, (wheel.start + 1) % wheel.size):
                self.assertEqual(first_in(wheel, low, (low - 1) % wheel.size), 0)

    def test_where_there_is_none(self):
        self.assertIsNone(first_in(Wheel(12, 4, 2), 3, 5))
        self.assertIsNone(first_in(Wheel(12, 4, 2), 11, 1))
        self.assertEqual(first_in(Wheel(12, 4, 2), 11, 2), 0)
        self.assertEqual(first_in(Wheel(12, 4, 2), 10, 1), 2)
        self.assertIsNone(first_in(Wheel(12, 0, 2), 3, 1))
        self.assertEqual(first_in(Wheel(12, 0, 2), 3, 2), 0)
        self.assertIsNone(first_in(Wheel(GREATEST, 2, 1), 0, 0))
        self.assertIsNone(first_in(Wheel(GREATEST, 10 ** 59, 1), 2, 10 ** 59))
        self.assertEqual(first_in(Wheel(GREATEST, 10 ** 59, 1), 2, 10 ** 59 + 1), 1)

    def test_against_following_the_hand(self):
        for size in range(1, 25):
            stretches = {(low, high): stretch(size, low, high) for low in range(size) for high in range(size)}
            for wheel in small_wheels((size,), (0, 5)):
                beats = walked(wheel, wheel.lap)
                for (low, high), places in stretches.items():
                    told = followed(beats, places)
                    self.assertEqual(first_in(wheel, low, high), told, (fields(wheel), low, high))

    def test_the_beat_before_a_full_turn(self):
        wheel = Wheel(GREATEST, 1, 5)
        self.assertEqual(first_in(wheel, 4, 4), GREATEST - 1)
        self.assertEqual(first_in(wheel, 0, 4), GREATEST - 5)
        self.assertEqual(first_in(Wheel(GREATEST, -1, 5), 6, 6), GREATEST - 1)

    def test_each_place_of_great_wheels_is_come_to_by_its_own_beat(self):
        for wheel in greater_wheels():
            for beat in (0, 1, 2, 1000, 7 ** 35, wheel.lap // 3, wheel.lap - 1):
                place = wheel.place(beat)
                self.assertEqual(first_in(wheel, place, place), beat, (fields(wheel), beat))

    def test_great_wheels(self):
        for wheel in greater_wheels() + great_wheels():
            unit = wheel.size // wheel.lap
            for low in (0, 1, 3 ** 120, wheel.start + 1, wheel.size - 1):
                for wide in (0, 1, unit - 2, unit - 1, 10 ** 20, 7 ** 40, wheel.size // 1000, wheel.size // 2):
                    self.check_great(wheel, low % wheel.size, (low + wide) % wheel.size)

    def check_great(self, wheel, low, high):
        words = (fields(wheel), low, high)
        beat = first_in(wheel, low, high)
        if beat is None:
            self.assertEqual(count_in(wheel, wheel.lap, low, high), 0, words)
        else:
            self.assertTrue((wheel.place(beat) - low) % wheel.size <= (high - low) % wheel.size, words)
            self.assertEqual(count_in(wheel, beat, low, high), 0, words)

    def test_a_short_lap_on_a_great_wheel(self):
        for lap in range(1, 16):
            wheel = Wheel(lap * 10 ** 58, 7 * 10 ** 58, 10 ** 57)
            beats = walked(wheel, wheel.lap)
            for low in beats + [0, wheel.size - 1]:
                for high in beats + [0, wheel.size - 1]:
                    wide = (high - low) % wheel.size
                    told = [beat for beat, place in enumerate(beats) if (place - low) % wheel.size <= wide]
                    self.assertEqual(first_in(wheel, low, high), told[0] if told else None, (fields(wheel), low, high))


if __name__ == "__main__":
    unittest.main()
