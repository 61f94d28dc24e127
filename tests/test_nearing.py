import unittest

from gaphand.counts import count_in
from gaphand.near import nearing
from gaphand.wheels import Wheel, common

from samples import GREATEST, fibonacci_wheel, fields, great_wheels, greater_wheels, small_wheels, walked

SMALL = small_wheels(range(1, 25), (0, 5))


def far_from(wheel, place, beat):
    return (place - wheel.place(beat)) % wheel.size


def near_beats(wheel, place):
    """The near beats of a place and how far they are, by following the hand."""
    told = []
    for beat, stands in enumerate(walked(wheel, wheel.lap)):
        far = (place - stands) % wheel.size
        if not told or far < told[-1][1]:
            told.append((beat, far))
    return told


def rows_of(told):
    """Near beats gathered into rows."""
    rows = []
    for (beat, far), (following, less_far) in zip(told, told[1:]):
        on, less = following - beat, far - less_far
        if rows and rows[-1][2:4] == (on, less):
            rows[-1] = rows[-1][:4] + (rows[-1][4] + 1,)
        else:
            rows.append((beat, far, on, less, 1))
    return rows


def spread(wheel, place, rows):
    """The near beats that rows tell, with how far they are."""
    told = [(0, far_from(wheel, place, 0))]
    for beat, far, on, less, times in rows:
        told += [(beat + turn * on, far - turn * less) for turn in range(1, times + 1)]
    return told


def some_places(wheel):
    places = [0, 1, wheel.start, wheel.start - 1, wheel.start + 1, wheel.size // 2, wheel.size // 3, wheel.size - 1]
    return sorted({place % wheel.size for place in places + [7 ** 70, 3 ** 124, wheel.start + wheel.step]})


class Nearing(unittest.TestCase):
    def check_rows(self, wheel, place, rows):
        """What holds of the rows of every wheel, also where they can't be followed."""
        words = (fields(wheel), place)
        last, far_now, on_now = 0, far_from(wheel, place, 0), 0
        for beat, far, on, less, times in rows:
            self.assertEqual((beat, far), (last, far_now), words)
            self.assertNotEqual(on, on_now, words)
            self.assertTrue(on > 0 and less > 0 and times > 0, words)
            self.assertEqual(far_from(wheel, place, beat), far, words)
            self.assertEqual(far_from(wheel, place, beat + on), far - less, words)
            # None of the beats ahead of the next near one is less far than this one.
            self.assertEqual(count_in(wheel, beat + on, (place - far + 1) % wheel.size, place), 0, words)
            last, far_now, on_now = beat + times * on, far - times * less, on
            self.assertEqual(far_from(wheel, place, last), far_now, words)
            self.assertEqual(count_in(wheel, last, (place - far_now) % wheel.size, place), 0, words)
        self.assertTrue(0 <= far_now < common(wheel.size, wheel.step), words)
        self.assertLess(last, wheel.lap, words)

    def test_ordinary(self):
        # The places are 3, 8, 1, 6, 11, 4, 9, 2, 7, 0, 5, 10.
        wheel = Wheel(12, 5, 3)
        self.assertEqual(nearing(wheel, 3), [])
        self.assertEqual(nearing(wheel, 10), [(0, 7, 1, 5, 1), (1, 2, 5, 1, 2)])
        self.assertEqual(nearing(wheel=wheel, place=2), [(0, 11, 1, 5, 2), (2, 1, 5, 1, 1)])

    def test_kinds(self):
        for wheel in (Wheel(12, 5, 3), Wheel(GREATEST, 3 ** 125, 5)):
            told = nearing(wheel, 2)
            self.assertIs(type(told), list)
            self.assertNotEqual(told, [])
            for row in told:
                self.assertIs(type(row), tuple)
                self.assertEqual([type(number) for number in row], [int] * 5)

    def test_against_following_the_hand(self):
        for wheel in SMALL:
            for place in range(wheel.size):
                followed = near_beats(wheel, place)
                rows = nearing(wheel, place)
                self.assertEqual(spread(wheel, place, rows), followed, (fields(wheel), place))
                self.assertEqual(rows, rows_of(followed), (fields(wheel), place))

    def test_what_holds_of_rows(self):
        for wheel in small_wheels(range(1, 14), (0, 5)):
            for place in range(wheel.size):
                self.check_rows(wheel, place, nearing(wheel, place))

    def test_beat_nothing_alone(self):
        for wheel in SMALL + great_wheels():
            self.assertEqual(nearing(wheel, wheel.start), [])
        self.assertEqual(nearing(Wheel(12, 4, 2), 5), [])
        self.assertEqual(nearing(Wheel(12, 4, 2), 6), [(0, 4, 1, 4, 1)])
        for place in range(12):
            self.assertEqual(nearing(Wheel(12, 0, 7), place), [])
        for place in (0, 1, 5, GREATEST - 1):
            self.assertEqual(nearing(Wheel(GREATEST, 0, 7), place), [])
        self.assertEqual(nearing(Wheel(1, 0), 0), [])

    def test_one_long_row(self):
        self.assertEqual(nearing(Wheel(GREATEST, 1), GREATEST - 1), [(0, GREATEST - 1, 1, 1, GREATEST - 1)])
        self.assertEqual(nearing(Wheel(GREATEST, 3, 5), 4), [(0, GREATEST - 1, 1, 3, GREATEST // 3)])
        self.assertEqual(nearing(Wheel(GREATEST, 2, 5), 4), [(0, GREATEST - 1, 1, 2, GREATEST // 2 - 1)])

    def test_a_hand_that_goes_back_by_one(self):
        wheel = Wheel(GREATEST, -1, 5)
        self.assertEqual(nearing(wheel, 4), [(0, GREATEST - 1, 1, GREATEST - 1, 1)])
        self.assertEqual(nearing(wheel, 6), [(0, 1, GREATEST - 1, 1, 1)])
        self.assertEqual(nearing(wheel, 3), [(0, GREATEST - 2, 2, GREATEST - 2, 1)])

    def test_great_wheels(self):
        for wheel in greater_wheels() + great_wheels() + [fibonacci_wheel()]:
            for place in some_places(wheel):
                self.check_rows(wheel, place, nearing(wheel, place))

    def test_many_places_of_a_great_wheel(self):
        wheel = Wheel(10 ** 59 + 7, 3 ** 125, 7 ** 70)
        place = 1
        for _ in range(60):
            place = place * 7 ** 65 % wheel.size
            self.check_rows(wheel, place, nearing(wheel, place))

    def test_a_short_lap_on_a_great_wheel(self):
        for lap in range(1, 30):
            wheel = Wheel(lap * 10 ** 58, 7 * 10 ** 58, 10 ** 57)
            for place in some_places(wheel):
                self.assertEqual(nearing(wheel, place), rows_of(near_beats(wheel, place)), (fields(wheel), place))

    def test_the_list_is_the_askers_own(self):
        for wheel, place in ((Wheel(12, 5, 3), 2), (Wheel(12, 5, 3), 3), (fibonacci_wheel(), 5)):
            first = nearing(wheel, place)
            kept = list(first)
            second = nearing(wheel, place)
            self.assertIsNot(first, second)
            first.append((0, 0, 0, 0, 0))
            first[0] = None
            first.reverse()
            self.assertEqual(second, kept)
            self.assertEqual(nearing(wheel, place), kept)
            second.clear()
            self.assertEqual(nearing(wheel, place), kept)
            third = nearing(wheel, place)
            nearing(wheel, 7)
            nearing(Wheel(10, 3), 4)
            self.assertEqual(third, kept)


if __name__ == "__main__":
    unittest.main()
