import unittest

from gaphand.counts import slanted
from gaphand.wheels import common

FIGURES = 10 ** 120


def one_by_one(many, step, start, size):
    return sum((start + k * step) // size for k in range(many))


def great_numbers():
    """Numbers of up to a hundred and twenty figures, of many kinds."""
    numbers = [FIGURES - 1, 10 ** 119, 3 ** 251, 7 ** 142, 2 ** 398, 10 ** 60, 5 ** 100 + 1, 12, 1]
    number = 1
    for turn in range(4):
        number = (number * 3 ** 240 + turn) % FIGURES
        numbers.append(number)
    return numbers


def great_fours():
    """Numbers to hand in, as many, step, start and size."""
    numbers = great_numbers()
    fours = []
    for turn, many in enumerate(numbers):
        for by, size in enumerate(numbers):
            step = numbers[(turn + 2 * by + 1) % len(numbers)] * (-1) ** turn
            start = numbers[(3 * turn + by + 2) % len(numbers)] * (-1) ** by
            fours.append((many, step, start, size))
    return fours


class Slanted(unittest.TestCase):
    def test_ordinary(self):
        self.assertEqual(slanted(4, 3, 2, 5), 0 + 1 + 1 + 2)
        self.assertEqual(slanted(many=4, step=3, start=2, size=5), 4)
        self.assertIs(type(slanted(4, 3, 2, 5)), int)

    def test_rounded_down(self):
        self.assertEqual(slanted(1, 0, -1, 3), -1)
        self.assertEqual(slanted(3, -1, 0, 3), 0 - 1 - 1)
        self.assertEqual(slanted(5, -2, 3, 4), 0 + 0 - 1 - 1 - 2)

    def test_no_beats(self):
        for step, start, size in ((3, 2, 5), (-3, -2, 5), (0, 0, 1), (FIGURES - 1, 1 - FIGURES, FIGURES - 1)):
            self.assertEqual(slanted(0, step, start, size), 0)

    def test_one_beat(self):
        for start in range(-20, 21):
            for size in range(1, 9):
                for step in (-9, -1, 0, 1, 9):
                    self.assertEqual(slanted(1, step, start, size), start // size)

    def test_against_the_sum_one_by_one(self):
        for size in range(1, 13):
            for step in range(-15, 16):
                for start in range(-15, 16):
                    for many in (2, 3, 4, 7, 12, 13, 25):
                        told = one_by_one(many, step, start, size)
                        self.assertEqual(slanted(many, step, start, size), told, (many, step, start, size))

    def test_sizes_above_all_else(self):
        for step in (-3, -1, 0, 1, 2, 30):
            for start in (-101, -100, -1, 0, 1, 99, 100):
                for many in range(0, 40):
                    self.assertEqual(slanted(many, step, start, 100), one_by_one(many, step, start, 100))

    def test_few_quotients_of_great_numbers(self):
        for many, step, start, size in great_fours():
            for few in (0, 1, 2, 3, 50):
                self.assertEqual(slanted(few, step, start, size), one_by_one(few, step, start, size))

    def test_one_more_adds_one_quotient(self):
        for many, step, start, size in great_fours():
            added = slanted(many + 1, step, start, size) - slanted(many, step, start, size)
            self.assertEqual(added, (start + many * step) // size, (many, step, start, size))

    def test_two_parts_add_up(self):
        for many, step, start, size in great_fours():
            for part in (many // 2, many // 3, many // 10 ** 30):
                first = slanted(part, step, start, size)
                second = slanted(many - part, step, start + part * step, size)
                self.assertEqual(first + second, slanted(many, step, start, size), (many, step, start, size))

    def test_taken_from_behind(self):
        for many, step, start, size in great_fours():
            turned = slanted(many, -step, start + (many - 1) * step, size)
            self.assertEqual(turned, slanted(many, step, start, size), (many, step, start, size))

    def test_all_rests_of_a_size(self):
        # Over as many beats as the size each multiple of the divisor comes as a rest, the divisor times.
        for many, step, start, size in great_fours():
            share = common(size, abs(step))
            lap = size // share
            rests = share * (share * lap * (lap - 1) // 2 + lap * (start % share))
            numbers = size * start + size * (size - 1) // 2 * step
            self.assertEqual(slanted(size, step, start, size) * size, numbers - rests, (step, start, size))

    def test_great_numbers_over_a_small_size(self):
        for size in range(1, 9):
            for many in (10 ** 119 + 3, FIGURES - 1):
                for step, start in ((7 ** 140, -3 ** 250), (1 - FIGURES, FIGURES - 1), (2, -1)):
                    laps, left = many // size, many % size
                    rests = [(start + k * step) % size for k in range(size)]
                    numbers = many * start + many * (many - 1) // 2 * step
                    told = (numbers - laps * sum(rests) - sum(rests[:left])) // size
                    self.assertEqual(slanted(many, step, start, size), told, (many, step, start, size))

    def test_the_greatest(self):
        most = FIGURES - 1
        self.assertEqual(slanted(most, most, 0, most), most * (most - 1) // 2)
        self.assertEqual(slanted(most, -most, 0, most), -(most * (most - 1) // 2))
        self.assertEqual(slanted(most, 1, 0, most), 0)
        self.assertEqual(slanted(most, 1, 1, most), 1)
        self.assertEqual(slanted(most, 1, -1, most), -1)
        self.assertEqual(slanted(most, -1, 0, most), 1 - most)
        self.assertEqual(slanted(most, 0, -most, 1), -most * most)


if __name__ == "__main__":
    unittest.main()
