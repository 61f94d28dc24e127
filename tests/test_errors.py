import unittest

from gaphand.errors import HandError, NoBeats, NoPlace, NoWheel

REFUSALS = (NoWheel, NoBeats, NoPlace)


class Errors(unittest.TestCase):
    def test_any_refusal_is_a_value_error(self):
        self.assertEqual(HandError.__bases__, (ValueError,))

    def test_each_refusal_stands_under_hand_error(self):
        for refusal in REFUSALS:
            self.assertTrue(issubclass(refusal, HandError), refusal)
            self.assertTrue(issubclass(refusal, ValueError), refusal)
            self.assertIsNot(refusal, HandError)

    def test_no_refusal_stands_under_another_one(self):
        for one in REFUSALS:
            for other in REFUSALS:
                self.assertEqual(issubclass(one, other), one.__name__ == other.__name__, (one, other))

    def test_each_refusal_is_taken_as_any(self):
        for refusal in REFUSALS:
            for kind in (refusal, HandError, ValueError):
                with self.assertRaises(kind):
                    raise refusal("words")


if __name__ == "__main__":
    unittest.main()
