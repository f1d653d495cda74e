"""Promise [3]: the refusals."""

import copy
import pickle
import unittest

from firmroll import errors
from firmroll.errors import (
    NoDeed, NoKind, NoMark, NoMember, NoMembers, NoText, NoUse, RollError, TwoFaced,
)

REFUSALS = (NoMembers, NoDeed, TwoFaced, NoMember, NoKind, NoMark, NoUse, NoText)
VALUES = (0, -3, 999999999, "use", "", "2; 0.1 seen", (0, 1), (5, 120))


class TestErrors(unittest.TestCase):
    def test_roll_error_is_a_value_error(self):
        self.assertEqual(RollError.__bases__, (ValueError,))

    def test_each_stands_straight_under_roll_error(self):
        for refusal in REFUSALS:
            self.assertEqual(refusal.__bases__, (RollError,), refusal)
            self.assertTrue(issubclass(refusal, ValueError), refusal)

    def test_none_stands_under_another_one(self):
        for one in REFUSALS:
            for other in REFUSALS:
                self.assertEqual(issubclass(one, other), one == other, (one, other))

    def test_the_names_are_as_told(self):
        names = [refusal.__name__ for refusal in REFUSALS]
        self.assertEqual(names, ["NoMembers", "NoDeed", "TwoFaced", "NoMember",
                                 "NoKind", "NoMark", "NoUse", "NoText"])
        for name in names + ["RollError"]:
            self.assertEqual(vars(errors)[name].__module__, "firmroll.errors")

    def test_what_by_place(self):
        for refusal in REFUSALS:
            for value in VALUES:
                self.assertEqual(refusal(value).what, value)

    def test_what_by_name(self):
        for refusal in REFUSALS:
            for value in VALUES:
                self.assertEqual(refusal(what=value).what, value)

    def test_what_is_the_very_value(self):
        value = ("a" * 40, 7)
        for refusal in REFUSALS:
            self.assertIs(refusal(value).what, value)
            self.assertIs(refusal(what=value).what, value)

    def test_each_is_made_with_just_one_value(self):
        for refusal in REFUSALS:
            with self.assertRaises(TypeError):
                refusal()
            with self.assertRaises(TypeError):
                refusal(1, 2)
            with self.assertRaises(TypeError):
                refusal(1, what=2)

    def test_each_is_caught_by_its_own_class_and_those_above(self):
        for refusal in REFUSALS:
            for above in (refusal, RollError, ValueError):
                with self.assertRaises(above) as caught:
                    raise refusal((1, 2))
                self.assertIs(type(caught.exception), refusal)
                self.assertEqual(caught.exception.what, (1, 2))

    def test_none_is_caught_by_another_one(self):
        for refusal in REFUSALS:
            others = tuple(other for other in REFUSALS if other != refusal)
            try:
                raise refusal(what=3)
            except others:
                self.fail(refusal)
            except RollError as caught:
                self.assertEqual(caught.what, 3)

    def test_two_of_a_class_keep_each_its_own(self):
        for refusal in REFUSALS:
            one, other = refusal((0, 1)), refusal(what=(0, 2))
            self.assertEqual((one.what, other.what), ((0, 1), (0, 2)))

    def test_each_can_be_shown_and_copied(self):
        for refusal in REFUSALS:
            for made in (refusal((1, 2)), refusal(what=(1, 2))):
                self.assertIsInstance(str(made), str)
                self.assertEqual(copy.copy(made).what, (1, 2))
                self.assertEqual(pickle.loads(pickle.dumps(made)).what, (1, 2))


if __name__ == "__main__":
    unittest.main()
