import copy
import unittest

from gaphand.errors import HandError, NoBeats
from gaphand.wheels import Wheel

from samples import GREATEST, fields, great_wheels, no_numbers

GREAT_BEATS = (0, 1, 2, 3, 10, 999, 7 ** 40, 10 ** 59 + 1, GREATEST - 1, GREATEST)


def followed(wheel, many):
    """Place and turns of the beats 0 to many - 1, by following the hand."""
    told = []
    place, turns = wheel.start, 0
    for _ in range(many):
        told.append((place, turns))
        place = place + wheel.step
        if place >= wheel.size:
            place = place - wheel.size
            turns = turns + 1
    return told


class PlaceAndTurns(unittest.TestCase):
    def check_sum(self, wheel, beat):
        place = wheel.place(beat)
        turns = wheel.turns(beat)
        self.assertIs(type(place), int)
        self.assertIs(type(turns), int)
        self.assertTrue(0 <= place < wheel.size, (fields(wheel), beat))
        self.assertEqual(turns * wheel.size + place, wheel.start + beat * wheel.step, (fields(wheel), beat))

    def test_ordinary_beats(self):
        wheel = Wheel(12, 5, 3)
        self.assertEqual([wheel.place(beat) for beat in range(6)], [3, 8, 1, 6, 11, 4])
        self.assertEqual([wheel.turns(beat) for beat in range(6)], [0, 0, 1, 1, 1, 2])
        self.assertEqual((wheel.place(100), wheel.turns(100)), (11, 41))

    def test_beat_nothing(self):
        for wheel in great_wheels() + [Wheel(12, 5, -1), Wheel(12, 5, 12), Wheel(12, -5, 100)]:
            self.assertEqual(wheel.place(0), wheel.start)
            self.assertEqual(wheel.turns(0), 0)

    def test_step_and_start_count_as_kept(self):
        wheel = Wheel(12, -1, -1)
        self.assertEqual((wheel.place(0), wheel.turns(0)), (11, 0))
        self.assertEqual((wheel.place(1), wheel.turns(1)), (10, 1))
        wheel = Wheel(12, 25, 30)
        self.assertEqual((wheel.place(2), wheel.turns(2)), (8, 0))

    def test_just_at_the_end(self):
        wheel = Wheel(10, 5, 5)
        self.assertEqual((wheel.place(1), wheel.turns(1)), (0, 1))
        wheel = Wheel(10, 3, 0)
        self.assertEqual((wheel.place(3), wheel.turns(3)), (9, 0))
        self.assertEqual((wheel.place(10), wheel.turns(10)), (0, 3))

    def test_a_hand_that_stands_still(self):
        for wheel in (Wheel(12, 0, 7), Wheel(12, 24, 7), Wheel(1, 5, 7)):
            for beat in GREAT_BEATS:
                self.assertEqual(wheel.place(beat), wheel.start)
                self.assertEqual(wheel.turns(beat), 0)

    def test_the_greatest_beat(self):
        self.assertEqual(Wheel(7, 3, 2).place(GREATEST), 5)
        self.assertEqual(Wheel(7, 3, 2).turns(GREATEST), (2 + 3 * GREATEST) // 7)
        great = Wheel(GREATEST, GREATEST - 1, GREATEST - 1)
        self.assertEqual(great.place(GREATEST), GREATEST - 1)
        self.assertEqual(great.turns(GREATEST), GREATEST - 1)
        self.assertEqual(great.place(GREATEST - 1), 0)
        self.assertEqual(great.turns(GREATEST - 1), GREATEST - 1)

    def test_against_following_the_hand(self):
        for size in range(1, 14):
            for step in range(-2, size + 2):
                wheel = Wheel(size, step, 2 * step + 1)
                told = followed(wheel, 40)
                self.assertEqual([(wheel.place(beat), wheel.turns(beat)) for beat in range(40)], told)

    def test_the_sum_on_great_wheels(self):
        for wheel in great_wheels():
            for beat in GREAT_BEATS:
                self.check_sum(wheel, beat)

    def test_a_lap_leads_back(self):
        for wheel in great_wheels() + [Wheel(12, 8, 5), Wheel(12, 7, 5)]:
            self.assertEqual(wheel.place(wheel.lap), wheel.start)

    def test_several_wheels_asked_by_turns(self):
        wheels = great_wheels() + [Wheel(12, 5, 3), Wheel(10, 4, 1), Wheel(12, 7, 3)]
        kept = [fields(wheel) for wheel in wheels]
        for beat in GREAT_BEATS + tuple(range(20)):
            for wheel in wheels:
                self.check_sum(wheel, beat)
            for wheel in reversed(wheels):
                self.check_sum(wheel, beat)
        self.assertEqual([fields(wheel) for wheel in wheels], kept)

    def test_beat_by_its_name(self):
        self.assertEqual(Wheel(12, 5, 3).place(beat=2), 1)
        self.assertEqual(Wheel(12, 5, 3).turns(beat=2), 1)


class Refused(unittest.TestCase):
    def refused(self, wheel, beat):
        for ask in (wheel.place, wheel.turns):
            with self.assertRaises(NoBeats) as taken:
                ask(beat)
            self.assertIs(type(taken.exception), NoBeats)
            self.assertIsInstance(taken.exception, HandError)

    def wheels(self):
        return [Wheel(12, 5, 3), Wheel(12, 0, 3), Wheel(1, 0), Wheel(GREATEST, -1, 5)]

    def test_beats_beyond_the_bounds(self):
        for wheel in self.wheels():
            for beat in (-1, -12, -GREATEST, GREATEST + 1, 10 ** 61, 10 ** 5000, -10 ** 5000):
                self.refused(wheel, beat)

    def test_what_is_no_number(self):
        for wheel in self.wheels():
            for beat in no_numbers():
                self.refused(wheel, beat)
            self.refused(wheel, wheel)

    def test_behind_a_refusal_the_wheel_answers_as_before(self):
        for wheel in self.wheels():
            kept = fields(wheel)
            told = [(wheel.place(beat), wheel.turns(beat)) for beat in GREAT_BEATS]
            for beat in [-1, GREATEST + 1] + no_numbers():
                self.refused(wheel, beat)
                self.assertEqual(fields(wheel), kept)
            self.assertEqual([(wheel.place(beat), wheel.turns(beat)) for beat in GREAT_BEATS], told)

    def test_nothing_handed_in_is_changed(self):
        for value in ([1, [2]], {1: [2]}, (1, [2])):
            before = copy.deepcopy(value)
            self.refused(Wheel(12, 5, 3), value)
            self.assertEqual(value, before)
        other = Wheel(10, 4, 1)
        self.refused(Wheel(12, 5, 3), other)
        self.assertEqual(fields(other), (10, 4, 1, 5))


if __name__ == "__main__":
    unittest.main()
