import unittest

from standtogether import errors
from support import REFUSALS


class ErrorsTest(unittest.TestCase):
    def test_seat_error_is_a_value_error(self):
        self.assertEqual(errors.SeatError.__bases__, (ValueError,))

    def test_each_refusal_stands_straight_under_seat_error(self):
        self.assertEqual(len(set(REFUSALS)), 8)
        for refusal in REFUSALS:
            self.assertEqual(refusal.__bases__, (errors.SeatError,))

    def test_each_is_made_with_a_text(self):
        for refusal in REFUSALS + (errors.SeatError,):
            self.assertEqual(str(refusal("some words")), "some words")


if __name__ == "__main__":
    unittest.main()
