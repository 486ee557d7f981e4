import unittest

from helper import CupTestCase
from seedcup import errors

PLAIN_NAMES = (
    "InvalidRounds", "InvalidSeed", "InvalidLevel", "InvalidRound", "InvalidBlock",
    "InvalidIndex", "SameSeed", "InvalidGroups", "InvalidGroup", "InvalidPlayers",
    "InvalidClaim", "InvalidClaims", "Inconsistent", "InvalidDraw", "NotStandard",
    "InvalidResult", "InvalidWins", "UnknownName", "NothingToUndo", "InvalidText",
)
ALL_NAMES = PLAIN_NAMES + ("TooLarge",)


def class_called(name):
    return vars(errors)[name]


class TestErrors(CupTestCase):
    """[3] and the interface of seedcup/errors.py."""

    def test_exactly_the_listed_classes_are_there(self):
        found = [name for name, value in vars(errors).items() if isinstance(value, type)]
        self.assertEqual(sorted(found), sorted(ALL_NAMES + ("CupError",)))

    def test_classes_are_defined_in_this_file_under_their_names(self):
        for name in ALL_NAMES + ("CupError",):
            self.assertEqual(class_called(name).__module__, "seedcup.errors")
            self.assertEqual(class_called(name).__name__, name)

    def test_the_base_class_is_a_value_error(self):
        self.assertTrue(issubclass(errors.CupError, ValueError))

    def test_every_error_is_a_cup_error(self):
        for name in ALL_NAMES:
            self.assertTrue(issubclass(class_called(name), errors.CupError), name)
            self.assertTrue(issubclass(class_called(name), ValueError), name)

    def test_no_error_but_the_base_is_above_another(self):
        for name in ALL_NAMES:
            for other in ALL_NAMES:
                if other != name:
                    self.assertFalse(issubclass(class_called(name), class_called(other)), (name, other))

    def test_plain_errors_take_no_arguments(self):
        for name in PLAIN_NAMES:
            with self.assertRaises(class_called(name)):
                raise class_called(name)()

    def test_too_large_keeps_its_limit(self):
        self.assertEqual(errors.TooLarge(7).limit, 7)
        self.assertEqual(errors.TooLarge(limit=6).limit, 6)
        with self.assertRaises(errors.CupError) as caught:
            raise errors.TooLarge(5)
        self.assertEqual(caught.exception.limit, 5)

    def test_too_large_needs_a_limit(self):
        with self.assertRaises(TypeError):
            errors.TooLarge()

    def test_two_errors_have_their_own_limits(self):
        first, second = errors.TooLarge(6), errors.TooLarge(7)
        self.assertEqual((first.limit, second.limit), (6, 7))


if __name__ == "__main__":
    unittest.main()
