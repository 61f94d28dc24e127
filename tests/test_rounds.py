import unittest

from gaphand.counts import count_in
from gaphand.rounds import after, around, before
from gaphand.wheels import Wheel

from samples import GREATEST, fields, great_wheels, greater_wheels, small_wheels, some_manys, walked

SMALL = small_wheels(range(1, 25), (0, 1, -2))


def sorted_beats(wheel, many):
    """The first many beats, in the order of their places."""
    places = walked(wheel, many)
    return sorted(range(many), key=lambda beat: places[beat])


def asked_beats(many, four):
    """Some beats below many: the outermost ones, and those where the three cases change over."""
    ahead, behind = four[0], four[2]
    edges = (0, 1, ahead, behind, many - ahead, many - behind, many // 2, many - 1)
    return sorted({edge + by for edge in edges for by in (-1, 0, 1) if 0 <= edge + by < many})


class Ordinary(unittest.TestCase):
    def test_a_wheel_of_twelve(self):
        wheel = Wheel(12, 5, 3)
        # The places are 3, 8, 1, 6, 11, so the order is 2, 0, 3, 1, 4.
        self.assertEqual(around(wheel, 5), (3, 3, 2, 2))
        self.assertEqual([after(wheel, 5, beat) for beat in range(5)], [3, 4, 0, 1, 2])
        self.assertEqual([before(wheel, 5, beat) for beat in range(5)], [2, 3, 4, 0, 1])

    def test_arguments_by_name(self):
        wheel = Wheel(12, 5, 3)
        self.assertEqual(around(wheel=wheel, many=5), (3, 3, 2, 2))
        self.assertEqual(after(wheel=wheel, many=5, beat=4), 2)
        self.assertEqual(before(wheel=wheel, many=5, beat=4), 1)

    def test_kinds(self):
        for wheel, many in ((Wheel(12, 5, 3), 5), (Wheel(GREATEST, 3 ** 125), 10 ** 40)):
            four = around(wheel, many)
            self.assertIs(type(four), tuple)
            self.assertEqual([type(number) for number in four], [int] * 4)
            self.assertIs(type(after(wheel, many, 1)), int)
            self.assertIs(type(before(wheel, many, 1)), int)


class SmallWheels(unittest.TestCase):
    def test_neighbours_against_all_places_sorted(self):
        for wheel in SMALL:
            for many in range(1, wheel.lap + 1):
                order = sorted_beats(wheel, many)
                for beat, following in zip(order, order[1:] + order[:1]):
                    self.assertEqual(after(wheel, many, beat), following, (fields(wheel), many, beat))
                    self.assertEqual(before(wheel, many, following), beat, (fields(wheel), many, following))

    def test_the_four_against_all_places_sorted(self):
        for wheel in SMALL:
            for many in range(2, wheel.lap + 1):
                order = sorted_beats(wheel, many)
                spot = order.index(0)
                ahead, behind = order[(spot + 1) % many], order[spot - 1]
                places = walked(wheel, many)
                near = (places[ahead] - places[0]) % wheel.size
                back = (places[0] - places[behind]) % wheel.size
                self.assertEqual(around(wheel, many), (ahead, near, behind, back), (fields(wheel), many))

    def test_the_start_changes_nothing(self):
        for size, step in ((24, 7), (23, 9), (24, 10)):
            for start in range(size):
                for many in range(2, Wheel(size, step).lap + 1):
                    self.assertEqual(around(Wheel(size, step, start), many), around(Wheel(size, step), many))


class Edges(unittest.TestCase):
    def test_many_of_one(self):
        for wheel in SMALL + great_wheels():
            self.assertEqual(after(wheel, 1, 0), 0)
            self.assertEqual(before(wheel, 1, 0), 0)

    def test_many_of_two(self):
        for wheel in SMALL + great_wheels():
            if wheel.lap > 1:
                self.assertEqual(around(wheel, 2), (1, wheel.step, 1, wheel.size - wheel.step), fields(wheel))
                self.assertEqual([after(wheel, 2, 0), after(wheel, 2, 1)], [1, 0])
                self.assertEqual([before(wheel, 2, 0), before(wheel, 2, 1)], [1, 0])

    def test_many_of_the_lap(self):
        for wheel in SMALL + great_wheels():
            if wheel.lap > 1:
                ahead, near, behind, back = around(wheel, wheel.lap)
                self.assertEqual((near, back), (wheel.size // wheel.lap,) * 2, fields(wheel))
                self.assertEqual(ahead + behind, wheel.lap, fields(wheel))
                self.assertEqual(wheel.place(ahead), (wheel.start + near) % wheel.size)

    def test_step_one(self):
        for size in (2, 3, 12, 10 ** 60):
            wheel = Wheel(size, 1, 5)
            for many in some_manys(wheel):
                self.assertEqual(around(wheel, many), (1, 1, many - 1, size - many + 1))
                self.assertEqual(after(wheel, many, 0), 1)
                self.assertEqual(after(wheel, many, many - 1), 0)
                self.assertEqual(before(wheel, many, many - 1), many - 2)

    def test_step_back_by_one(self):
        for size in (2, 3, 12, 10 ** 60):
            wheel = Wheel(size, -1, 5)
            for many in some_manys(wheel):
                self.assertEqual(around(wheel, many), (many - 1, size - many + 1, 1, 1))
                self.assertEqual(after(wheel, many, 0), many - 1)
                self.assertEqual(after(wheel, many, many - 1), many - 2)
                self.assertEqual(before(wheel, many, 0), 1)

    def test_a_shared_divisor(self):
        self.assertEqual(around(Wheel(100, 35, 3), 20), (3, 5, 17, 5))
        self.assertEqual(around(Wheel(7 * 10 ** 50, 2 * 10 ** 50), 7), (4, 10 ** 50, 3, 10 ** 50))


class GreatWheels(unittest.TestCase):
    def pairs(self):
        return [(wheel, many) for wheel in greater_wheels() for many in some_manys(wheel)]

    def check_four(self, wheel, many, four):
        # Two such beats with this sum and this sum of widths leave room for no other between them.
        ahead, near, behind, back = four
        told = (fields(wheel), many, four)
        self.assertTrue(0 < ahead < many and 0 < behind < many, told)
        self.assertTrue(0 < near < wheel.size and 0 < back < wheel.size, told)
        self.assertEqual(near, (wheel.place(ahead) - wheel.place(0)) % wheel.size, told)
        self.assertEqual(back, (wheel.place(0) - wheel.place(behind)) % wheel.size, told)
        self.assertEqual(behind * near + ahead * back, wheel.size, told)
        self.assertGreaterEqual(ahead + behind, many, told)

    def test_the_four(self):
        for wheel, many in self.pairs():
            self.check_four(wheel, many, around(wheel, many))

    def test_the_four_on_small_wheels_too(self):
        for wheel in SMALL:
            for many in range(2, wheel.lap + 1):
                self.check_four(wheel, many, around(wheel, many))

    def test_the_three_cases(self):
        for wheel, many in self.pairs():
            four = around(wheel, many)
            ahead, near, behind, back = four
            for beat in asked_beats(many, four):
                told, gap = beat + ahead - behind, near + back
                if beat + ahead < many:
                    told, gap = beat + ahead, near
                elif beat - behind >= 0:
                    told, gap = beat - behind, back
                self.assertEqual(after(wheel, many, beat), told, (fields(wheel), many, beat))
                self.assertEqual((wheel.place(told) - wheel.place(beat)) % wheel.size, gap, (fields(wheel), many))

    def test_no_first_beat_stands_in_a_gap(self):
        for wheel, many in self.pairs():
            for beat in asked_beats(many, around(wheel, many)):
                low, high = wheel.place(beat), wheel.place(after(wheel, many, beat))
                self.assertEqual(count_in(wheel, many, low, high), 2, (fields(wheel), many, beat))

    def test_before_is_after_turned_round(self):
        for wheel, many in self.pairs():
            for beat in asked_beats(many, around(wheel, many)):
                self.assertEqual(before(wheel, many, after(wheel, many, beat)), beat, (fields(wheel), many, beat))
                self.assertEqual(after(wheel, many, before(wheel, many, beat)), beat, (fields(wheel), many, beat))

    def test_few_first_beats_against_all_places_sorted(self):
        for wheel in greater_wheels():
            for many in (1, 2, 3, 7, 60):
                order = sorted_beats(wheel, many)
                for beat, following in zip(order, order[1:] + order[:1]):
                    self.assertEqual(after(wheel, many, beat), following, (fields(wheel), many, beat))
                    self.assertEqual(before(wheel, many, following), beat, (fields(wheel), many, following))

    def test_a_short_lap_on_a_great_wheel(self):
        for lap in range(1, 30):
            wheel = Wheel(lap * 10 ** 58, 7 * 10 ** 58, 10 ** 57)
            for many in range(1, wheel.lap + 1):
                order = sorted_beats(wheel, many)
                self.assertEqual([after(wheel, many, beat) for beat in order], order[1:] + order[:1])
                self.assertEqual([before(wheel, many, beat) for beat in order], order[-1:] + order[:-1])


class Promise(unittest.TestCase):
    def test_going_from_next_to_next_visits_all_once_and_comes_back(self):
        for size, step in ((24, 7), (97, 35), (360, 222), (1000, 618), (4001, 1234)):
            wheel = Wheel(size, step, 11)
            for many in sorted({1, 2, 3, wheel.lap // 2, wheel.lap - 1, wheel.lap}):
                seen, gone, widths = [], 0, {}
                beat = 0
                for _ in range(many):
                    seen.append(beat)
                    following = after(wheel, many, beat)
                    gap = (wheel.place(following) - wheel.place(beat)) % size or size
                    gone = gone + gap
                    widths[gap] = True
                    beat = following
                self.assertEqual(beat, 0)
                self.assertEqual(sorted(seen), list(range(many)))
                self.assertEqual(gone, size)
                self.assertLessEqual(len(widths), 3)
                if len(widths) == 3:
                    self.assertEqual(max(widths) * 2, sum(widths))


if __name__ == "__main__":
    unittest.main()
