import unittest

from wholefract import errors
from wholefract.errors import AtRest, FractError

WITH_A_TEXT = ("NoText", "NoNumber", "TooMany", "NoOrder", "NoProgram", "Shared", "NoPowers", "NoTrail", "NoName",
               "NoDeed", "NoRow")


class Refusals(unittest.TestCase):
    def test_all_are_straight_under_the_one(self):
        for name in WITH_A_TEXT + ("AtRest",):
            self.assertEqual(getattr(errors, name).__bases__, (FractError,), name)
            self.assertEqual(getattr(errors, name).__name__, name)

    def test_the_one_is_a_value_error(self):
        self.assertEqual(FractError.__bases__, (ValueError,))

    def test_none_is_another_one(self):
        classes = [getattr(errors, name) for name in WITH_A_TEXT + ("AtRest",)]
        for one in classes:
            self.assertTrue(issubclass(one, FractError) and issubclass(one, ValueError))
            self.assertEqual([other for other in classes if issubclass(one, other)], [one])

    def test_made_with_a_text(self):
        for name in WITH_A_TEXT:
            with self.assertRaises(ValueError) as caught:
                raise getattr(errors, name)("some words")
            self.assertIs(caught.exception.__class__, getattr(errors, name))
            self.assertEqual(str(caught.exception), "some words")

    def test_at_rest_keeps_its_steps(self):
        for steps in (0, 1, 2000, 10 ** 18):
            with self.assertRaises(FractError) as caught:
                raise AtRest(steps)
            self.assertEqual(caught.exception.steps, steps)

    def test_each_at_rest_has_steps_of_its_own(self):
        one, other = AtRest(3), AtRest(4)
        self.assertEqual((one.steps, other.steps), (3, 4))
