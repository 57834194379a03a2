"""Point 2 and the interface's errors: what stands under what, and the fields."""

import unittest

from liftcourt import errors
from liftcourt.errors import (
    CourtError, Empty, NoDeal, NoDeed, NoFloor, NoHouse, NoIll, NoLift, NoLine, NoRide, NoRule, TooMany, Twice,
)

PLAIN = [NoHouse, NoRule, NoDeal, NoDeed, NoRide, NoIll, NoLine, Empty]
WITH_FIELD = [(NoFloor, "floor"), (NoLift, "lift"), (Twice, "tag"), (TooMany, "most")]
REFUSALS = PLAIN + [refusal for refusal, field in WITH_FIELD]


class Standing(unittest.TestCase):
    def test_any_refusal_is_a_value_error(self):
        self.assertEqual(CourtError.__bases__, (ValueError,))

    def test_each_stands_straight_under_court_error(self):
        for refusal in REFUSALS:
            with self.subTest(refusal=refusal.__name__):
                self.assertEqual(refusal.__bases__, (CourtError,))
                self.assertTrue(issubclass(refusal, ValueError))

    def test_none_stands_under_another_one(self):
        for one in REFUSALS:
            for other in REFUSALS:
                with self.subTest(one=one.__name__, other=other.__name__):
                    self.assertEqual(issubclass(one, other), one is other)

    def test_each_bears_its_own_name(self):
        for refusal in REFUSALS + [CourtError]:
            with self.subTest(refusal=refusal.__name__):
                self.assertIs(getattr(errors, refusal.__name__), refusal)


class Raising(unittest.TestCase):
    def test_a_plain_one_is_raised_with_words_or_without(self):
        for refusal in PLAIN:
            with self.subTest(refusal=refusal.__name__):
                with self.assertRaises(CourtError) as bare:
                    raise refusal()
                self.assertIs(type(bare.exception), refusal)
                with self.assertRaises(ValueError) as worded:
                    raise refusal("some words")
                self.assertEqual(str(worded.exception), "some words")

    def test_one_with_a_field_is_raised_and_taken_by_its_name_alone(self):
        for refusal, field in WITH_FIELD:
            for other in REFUSALS:
                if other is refusal:
                    continue
                with self.subTest(refusal=refusal.__name__, other=other.__name__):
                    with self.assertRaises(refusal):
                        try:
                            raise refusal(7)
                        except other:
                            pass


class Fields(unittest.TestCase):
    def test_the_field_is_set_when_the_error_is_made(self):
        for refusal, field in WITH_FIELD:
            for number in (0, 1, 8, -1, -10 ** 59, 10 ** 60 - 1):
                with self.subTest(refusal=refusal.__name__, number=number):
                    self.assertEqual(getattr(refusal(number), field), number)

    def test_a_number_too_great_to_be_written_out(self):
        for refusal, field in WITH_FIELD:
            for number in (10 ** 5000, -10 ** 5000):
                self.assertTrue(getattr(refusal(number), field) == number, refusal.__name__)

    def test_the_field_is_there_when_the_error_is_taken(self):
        for refusal, field in WITH_FIELD:
            with self.subTest(refusal=refusal.__name__):
                with self.assertRaises(CourtError) as taken:
                    raise refusal(-3)
                self.assertEqual(getattr(taken.exception, field), -3)

    def test_each_error_has_its_own_field(self):
        for refusal, field in WITH_FIELD:
            with self.subTest(refusal=refusal.__name__):
                first = refusal(4)
                second = refusal(5)
                self.assertEqual((getattr(first, field), getattr(second, field)), (4, 5))
                self.assertFalse(hasattr(refusal, field))

    def test_no_error_has_the_field_of_another_one(self):
        for refusal, own in WITH_FIELD:
            for other, field in WITH_FIELD:
                with self.subTest(refusal=refusal.__name__, field=field):
                    self.assertEqual(hasattr(refusal(1), field), own == field)


if __name__ == "__main__":
    unittest.main()
