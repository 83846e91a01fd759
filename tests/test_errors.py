"""[0.4], [1.9]: the refusals."""

import unittest

from fivefields.errors import (
    FieldError, NoBook, NoClock, NoDay, NoField, NoMoment, NoName, NoRow, NoWord)

WORDED = (NoDay, NoMoment, NoBook, NoClock, NoWord)
KEEPING = ((NoField, "at"), (NoRow, "place"), (NoName, "name"))
REFUSALS = WORDED + tuple(refusal for refusal, field in KEEPING)


class Standing(unittest.TestCase):
    def test_field_error_stands_straight_under_value_error(self):
        self.assertEqual(FieldError.__bases__, (ValueError,))

    def test_each_stands_straight_under_field_error(self):
        self.assertEqual(len(set(REFUSALS)), 8)
        for refusal in REFUSALS:
            self.assertEqual(refusal.__bases__, (FieldError,), refusal)

    def test_none_stands_under_another_one(self):
        for refusal in REFUSALS:
            for other in REFUSALS:
                self.assertEqual(issubclass(refusal, other), refusal is other, (refusal, other))

    def test_one_is_not_taken_as_another(self):
        for refusal in REFUSALS:
            error = refusal("a")
            self.assertIsInstance(error, FieldError)
            self.assertIsInstance(error, ValueError)
            self.assertEqual([other for other in REFUSALS if isinstance(error, other)], [refusal])


class Making(unittest.TestCase):
    def test_worded_ones_are_made_with_a_text_or_nothing(self):
        for refusal in WORDED:
            for error in (refusal(), refusal("some words"), refusal("")):
                with self.assertRaises(refusal):
                    raise error

    def test_keeping_ones_keep_the_one_thing(self):
        for refusal, field in KEEPING:
            for thing in (0, 40, 5, "work", "", None, [1], ("a", 2)):
                error = refusal(thing)
                self.assertIs(getattr(error, field), thing, refusal)
                with self.assertRaises(refusal) as taken:
                    raise error
                self.assertIs(getattr(taken.exception, field), thing)

    def test_keeping_ones_are_made_with_just_one_thing(self):
        for refusal, field in KEEPING:
            with self.assertRaises(TypeError):
                refusal()
            with self.assertRaises(TypeError):
                refusal(1, 2)

    def test_the_one_thing_may_be_handed_in_by_its_name(self):
        self.assertEqual(NoField(at=3).at, 3)
        self.assertEqual(NoRow(place=4).place, 4)
        self.assertEqual(NoName(name="a").name, "a")


if __name__ == "__main__":
    unittest.main()
