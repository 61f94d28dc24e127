import math
import unittest

from gaphand.wheels import common


def followed(one, other):
    """The greatest number that divides both, by trying each number down from the greater one."""
    for number in range(max(one, other), 0, -1):
        if one % number == 0 and other % number == 0:
            return number
    return 0


class Common(unittest.TestCase):
    def check(self, one, other, told):
        for answer in (common(one, other), common(other, one)):
            self.assertEqual(answer, told, (one, other))
            self.assertIs(type(answer), int)

    def test_of_nothing_and_nothing(self):
        self.check(0, 0, 0)

    def test_of_nothing_and_another_one(self):
        for number in (1, 2, 7, 12, 10 ** 60, 10 ** 60 - 1):
            self.check(0, number, number)

    def test_of_equal_ones(self):
        for number in (1, 2, 7, 12, 10 ** 60, 10 ** 60 - 1):
            self.check(number, number, number)

    def test_without_a_common_divisor(self):
        self.check(8, 9, 1)
        self.check(1, 10 ** 60, 1)
        self.check(10 ** 60, 10 ** 60 - 1, 1)
        self.check(10 ** 60, 3 ** 125, 1)

    def test_with_a_common_divisor(self):
        self.check(12, 18, 6)
        self.check(7, 21, 7)
        self.check(100, 75, 25)

    def test_of_great_ones(self):
        self.check(10 ** 60, 10 ** 59, 10 ** 59)
        self.check(10 ** 60, 6 ** 60, 2 ** 60)
        self.check(3 ** 60 * 2 ** 90, 3 ** 100 * 7, 3 ** 60)
        self.check(7 ** 40 * 11 ** 20, 7 ** 30 * 13 ** 15, 7 ** 30)

    def test_of_great_ones_that_take_the_most_steps(self):
        one, other = 1, 1
        while other < 10 ** 60:
            one, other = other, one + other
        self.check(one, other, 1)
        self.check(6 * one, 6 * other, 6)

    def test_of_all_small_ones(self):
        for one in range(41):
            for other in range(41):
                self.check(one, other, followed(one, other))

    def test_of_many_great_ones(self):
        number = 1
        for turn in range(300):
            number = (number * 7 ** 71 + turn) % 10 ** 60
            other = number * number % (10 ** 60 - 7)
            self.check(number * (turn + 1), other * (turn + 1), math.gcd(number, other) * (turn + 1))


if __name__ == "__main__":
    unittest.main()
