import unittest

from gaphand.counts import count_in
from gaphand.rounds import after, around, gaps
from gaphand.wheels import Wheel

from samples import GREATEST, fields, great_wheels, greater_wheels, small_wheels, some_manys, walked

SMALL = small_wheels(range(1, 25), (0, 1, -2))


def counted(wheel, many):
    """The gaps of the first many beats, each one measured and counted."""
    places = sorted(walked(wheel, many))
    counts = {}
    for place, following in zip(places, places[1:] + [places[0] + wheel.size]):
        counts[following - place] = counts.get(following - place, 0) + 1
    return sorted(counts.items())


class Gaps(unittest.TestCase):
    def check_sums(self, wheel, many, told):
        words = (fields(wheel), many, told)
        widths = [width for width, count in told]
        self.assertEqual(widths, sorted(set(widths)), words)
        self.assertTrue(1 <= len(widths) <= 3, words)
        self.assertTrue(all(count > 0 for width, count in told), words)
        self.assertEqual(sum(count for width, count in told), many, words)
        self.assertEqual(sum(width * count for width, count in told), wheel.size, words)
        if len(widths) == 3:
            self.assertEqual(widths[2], widths[0] + widths[1], words)

    def test_ordinary(self):
        wheel = Wheel(12, 5, 3)
        # The places are 3, 8, 1, 6, 11.
        self.assertEqual(gaps(wheel, 5), [(2, 3), (3, 2)])
        self.assertEqual(gaps(wheel, 4), [(2, 2), (3, 1), (5, 1)])
        self.assertEqual(gaps(wheel=wheel, many=2), [(5, 1), (7, 1)])

    def test_kinds(self):
        for wheel, many in ((Wheel(12, 5, 3), 4), (Wheel(12, 5, 3), 1), (Wheel(GREATEST, 3 ** 125), 10 ** 40)):
            told = gaps(wheel, many)
            self.assertIs(type(told), list)
            for row in told:
                self.assertIs(type(row), tuple)
                self.assertEqual([type(number) for number in row], [int, int])

    def test_against_all_gaps_counted(self):
        for wheel in SMALL:
            for many in range(1, wheel.lap + 1):
                told = gaps(wheel, many)
                self.assertEqual(told, counted(wheel, many), (fields(wheel), many))
                self.check_sums(wheel, many, told)

    def test_many_of_one(self):
        for wheel in SMALL + great_wheels():
            self.assertEqual(gaps(wheel, 1), [(wheel.size, 1)])

    def test_many_of_two(self):
        self.assertEqual(gaps(Wheel(12, 5), 2), [(5, 1), (7, 1)])
        self.assertEqual(gaps(Wheel(12, 7), 2), [(5, 1), (7, 1)])
        self.assertEqual(gaps(Wheel(12, 6), 2), [(6, 2)])

    def test_many_of_the_lap(self):
        for wheel in SMALL + great_wheels():
            self.assertEqual(gaps(wheel, wheel.lap), [(wheel.size // wheel.lap, wheel.lap)], fields(wheel))

    def test_both_neighbours_as_wide_ahead_of_the_lap(self):
        # Among the places 0, 2, 4, 1 of five, beat 0 has a gap of 1 on either side.
        self.assertEqual(around(Wheel(5, 2), 4), (3, 1, 2, 1))
        self.assertEqual(gaps(Wheel(5, 2), 4), [(1, 3), (2, 1)])

    def test_great_wheels(self):
        for wheel in greater_wheels():
            for many in [1] + some_manys(wheel):
                self.check_sums(wheel, many, gaps(wheel, many))

    def test_great_wheels_have_the_widths_of_the_cases(self):
        for wheel in greater_wheels():
            for many in some_manys(wheel):
                ahead, near, behind, back = around(wheel, many)
                told = gaps(wheel, many)
                widths = [near, back] if ahead + behind == many else [near, back, near + back]
                self.assertEqual([width for width, count in told], sorted(set(widths)), (fields(wheel), many))
                if near != back:
                    self.assertEqual(dict(told)[near], many - ahead)
                    self.assertEqual(dict(told)[back], many - behind)

    def test_great_wheels_against_all_gaps_counted(self):
        for wheel in greater_wheels():
            for many in (1, 2, 3, 4, 7, 60, 200):
                self.assertEqual(gaps(wheel, many), counted(wheel, many), (fields(wheel), many))

    def test_great_wheels_with_nearly_all_places(self):
        for wheel in greater_wheels():
            unit = wheel.size // wheel.lap
            self.assertEqual(gaps(wheel, wheel.lap - 1), [(unit, wheel.lap - 2), (2 * unit, 1)], fields(wheel))

    def test_a_gap_that_is_told_is_there(self):
        for wheel in greater_wheels():
            for many in some_manys(wheel):
                widths = [width for width, count in gaps(wheel, many)]
                for beat in (0, 1, many // 2, many - 1):
                    low, high = wheel.place(beat), wheel.place(after(wheel, many, beat))
                    self.assertIn((high - low) % wheel.size, widths, (fields(wheel), many, beat))
                    self.assertEqual(count_in(wheel, many, low, high), 2, (fields(wheel), many, beat))

    def test_the_list_is_the_askers_own(self):
        for wheel, many in ((Wheel(12, 5, 3), 4), (Wheel(12, 5, 3), 1), (Wheel(GREATEST, 3 ** 125), 10 ** 40)):
            first = gaps(wheel, many)
            kept = list(first)
            second = gaps(wheel, many)
            self.assertIsNot(first, second)
            first.append((0, 0))
            first[0] = None
            self.assertEqual(second, kept)
            self.assertEqual(gaps(wheel, many), kept)
            second.clear()
            self.assertEqual(gaps(wheel, many), kept)
            third = gaps(wheel, many)
            gaps(wheel, wheel.lap)
            gaps(Wheel(10, 3), 4)
            self.assertEqual(third, kept)


if __name__ == "__main__":
    unittest.main()
