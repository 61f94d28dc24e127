"""What is refused of the numbers of points 7 to 12 and 14, and that a refusal leaves all as it was."""

import copy
import unittest

from gaphand.counts import count_in
from gaphand.errors import HandError, NoBeats, NoPlace, NoWheel
from gaphand.near import first_in, nearest, nearing
from gaphand.rounds import after, around, before, gaps
from gaphand.wheels import Wheel

from samples import GREATEST, fields, no_numbers


def wheels():
    return [
        Wheel(12, 5, 3), Wheel(12, 8, 3), Wheel(12, 6, 1), Wheel(12, 0, 7), Wheel(1, 0), Wheel(2, 1),
        Wheel(GREATEST, 3 ** 125, 7), Wheel(GREATEST, -1, 5), Wheel(GREATEST, 10 ** 59, 7), Wheel(GREATEST, 0),
    ]


def numbers_asked(wheel):
    """Each number that is handed in: its name, how it is handed in, its refusal, its least and its most."""
    lap, last = wheel.lap, wheel.size - 1
    return [
        ("around many", lambda value: around(wheel, value), NoBeats, 2, lap),
        ("after many", lambda value: after(wheel, value, 0), NoBeats, 1, lap),
        ("after beat", lambda value: after(wheel, lap, value), NoBeats, 0, lap - 1),
        ("after beat of one", lambda value: after(wheel, 1, value), NoBeats, 0, 0),
        ("before many", lambda value: before(wheel, value, 0), NoBeats, 1, lap),
        ("before beat", lambda value: before(wheel, lap, value), NoBeats, 0, lap - 1),
        ("before beat of one", lambda value: before(wheel, 1, value), NoBeats, 0, 0),
        ("gaps many", lambda value: gaps(wheel, value), NoBeats, 1, lap),
        ("nearing place", lambda value: nearing(wheel, value), NoPlace, 0, last),
        ("nearest many", lambda value: nearest(wheel, value, last), NoBeats, 1, GREATEST),
        ("nearest place", lambda value: nearest(wheel, 1, value), NoPlace, 0, last),
        ("nearest place of many", lambda value: nearest(wheel, GREATEST, value), NoPlace, 0, last),
        ("first_in low", lambda value: first_in(wheel, value, last), NoPlace, 0, last),
        ("first_in high", lambda value: first_in(wheel, 0, value), NoPlace, 0, last),
        ("first_in high where the hand begins", lambda value: first_in(wheel, wheel.start, value), NoPlace, 0, last),
        ("count_in many", lambda value: count_in(wheel, value, 0, last), NoBeats, 0, GREATEST),
        ("count_in low", lambda value: count_in(wheel, 5, value, last), NoPlace, 0, last),
        ("count_in high", lambda value: count_in(wheel, 5, 0, value), NoPlace, 0, last),
        ("count_in low of no beats", lambda value: count_in(wheel, 0, value, last), NoPlace, 0, last),
        ("count_in high of no beats", lambda value: count_in(wheel, 0, 0, value), NoPlace, 0, last),
    ]


def all_told(wheel):
    """Something of all that is told of a wheel."""
    last, lap = wheel.size - 1, wheel.lap
    told = [wheel.place(3), wheel.turns(3), nearing(wheel, last), nearing(wheel, 0), gaps(wheel, lap), gaps(wheel, 1)]
    told += [after(wheel, lap, 0), before(wheel, lap, lap - 1), nearest(wheel, 5, last), nearest(wheel, GREATEST, 0)]
    told += [first_in(wheel, last, last), first_in(wheel, 0, last // 2), count_in(wheel, GREATEST, last // 3, last)]
    if lap > 1:
        told.append(around(wheel, lap))
    return told


class Refused(unittest.TestCase):
    def refused(self, kind, ask, words):
        for taken_as in (kind, HandError, ValueError):
            with self.assertRaises(taken_as, msg=words) as taken:
                ask()
            self.assertIs(type(taken.exception), kind, words)
        for other in (NoWheel, NoBeats, NoPlace):
            self.assertEqual(isinstance(taken.exception, other), other is kind, words)

    def test_at_each_bound_nothing_is_refused(self):
        for wheel in wheels():
            for words, ask, kind, least, most in numbers_asked(wheel):
                if least <= most:
                    ask(least)
                    ask(most)

    def test_below_each_bound(self):
        for wheel in wheels():
            for words, ask, kind, least, most in numbers_asked(wheel):
                for value in (least - 1, -1, -2, -wheel.size, -GREATEST, -10 ** 5000):
                    self.refused(kind, lambda: ask(value), (fields(wheel), words))

    def test_beyond_each_bound(self):
        for wheel in wheels():
            for words, ask, kind, least, most in numbers_asked(wheel):
                for value in (most + 1, most + 2, most + wheel.size, GREATEST + 1, 10 ** 61, 10 ** 5000):
                    self.refused(kind, lambda: ask(value), (fields(wheel), words))

    def test_what_is_no_number(self):
        for wheel in wheels():
            for words, ask, kind, least, most in numbers_asked(wheel):
                for value in no_numbers() + [wheel]:
                    self.refused(kind, lambda: ask(value), (fields(wheel), words))

    def test_around_where_the_lap_is_one(self):
        for wheel in (Wheel(1, 0), Wheel(12, 0, 5), Wheel(GREATEST, GREATEST)):
            for many in (0, 1, 2, 12):
                self.refused(NoBeats, lambda: around(wheel, many), fields(wheel))

    def test_a_beat_is_below_many_and_many_within_the_lap(self):
        wheel = Wheel(12, 8, 3)
        for ask in (after, before):
            for many in (1, 2, 3):
                for beat in (-1, many, many + 1, 11):
                    self.refused(NoBeats, lambda: ask(wheel, many, beat), (many, beat))
            for many in (-1, 0, 4, 12):
                for beat in (-2, -1, 0, 1, 3, 4, None):
                    self.refused(NoBeats, lambda: ask(wheel, many, beat), (many, beat))
            for value in no_numbers():
                self.refused(NoBeats, lambda: ask(wheel, value, value), "both")

    def test_beats_are_refused_ahead_of_places(self):
        wrong_places = no_numbers() + [-1, 12, GREATEST]
        for wheel in (Wheel(12, 5, 3), Wheel(12, 0, 3)):
            for place in wrong_places:
                for many in (0, -1, GREATEST + 1, None, True, "1"):
                    self.refused(NoBeats, lambda: nearest(wheel, many, place), many)
                for many in (-1, GREATEST + 1, None, False, "1"):
                    self.refused(NoBeats, lambda: count_in(wheel, many, place, 0), many)
                    self.refused(NoBeats, lambda: count_in(wheel, many, 0, place), many)
                    self.refused(NoBeats, lambda: count_in(wheel, many, place, place), many)
            for many in no_numbers():
                self.refused(NoBeats, lambda: nearest(wheel, many, many), "nearest")
                self.refused(NoBeats, lambda: count_in(wheel, many, many, many), "count_in")

    def test_both_places_wrong(self):
        wheel = Wheel(12, 5, 3)
        for low in (-1, 12, None):
            for high in (-1, 12, "0"):
                self.refused(NoPlace, lambda: first_in(wheel, low, high), (low, high))
                self.refused(NoPlace, lambda: count_in(wheel, 4, low, high), (low, high))


class Behind(unittest.TestCase):
    def hand_in(self, ask, value):
        with self.assertRaises(HandError):
            ask(value)

    def test_a_refusal_leaves_the_wheel_and_its_answers(self):
        for wheel in wheels():
            kept, told = fields(wheel), all_told(wheel)
            for words, ask, kind, least, most in numbers_asked(wheel):
                for value in no_numbers() + [least - 1, most + 1]:
                    self.hand_in(ask, value)
                self.assertEqual(fields(wheel), kept, words)
                self.assertEqual(all_told(wheel), told, words)

    def test_asking_leaves_the_wheel_and_its_answers(self):
        for wheel in wheels():
            kept, names, told = fields(wheel), sorted(vars(wheel)), all_told(wheel)
            for words, ask, kind, least, most in numbers_asked(wheel):
                if least <= most:
                    ask(least)
                    ask(most)
                    self.assertEqual(fields(wheel), kept, words)
                    self.assertEqual(sorted(vars(wheel)), names, words)
            self.assertEqual(all_told(wheel), told)

    def test_nothing_handed_in_is_changed(self):
        for value in ([1, [2]], {1: [2]}, (1, [2]), [], {}):
            before_that = copy.deepcopy(value)
            for words, ask, kind, least, most in numbers_asked(Wheel(12, 5, 3)):
                self.hand_in(ask, value)
                self.assertEqual(value, before_that, words)

    def test_a_wheel_handed_in_as_a_number_is_not_changed(self):
        other = Wheel(10, 4, 1)
        for words, ask, kind, least, most in numbers_asked(Wheel(12, 5, 3)):
            self.hand_in(ask, other)
            self.assertEqual(fields(other), (10, 4, 1, 5), words)

    def test_wheels_asked_by_turns_keep_apart(self):
        several = wheels()
        told = [all_told(wheel) for wheel in several]
        self.assertEqual([all_told(wheel) for wheel in reversed(several)], told[::-1])
        self.assertEqual([all_told(wheel) for wheel in wheels()], told)


if __name__ == "__main__":
    unittest.main()
