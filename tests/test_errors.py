"""[3]: the classes of refusal."""

import unittest

from nearlands import errors

NAMES = (
    "NoNumber", "NoLine", "NoBox", "TooMany", "NoSpot", "NoName", "Taken", "Unknown",
    "NoDeed", "NoLot", "NoCount", "NoWeights", "NoText", "NoRow",
)


class ErrorsTest(unittest.TestCase):
    def test_land_error_stands_straight_under_value_error(self):
        self.assertEqual(errors.LandError.__bases__, (ValueError,))

    def test_each_class_stands_straight_under_land_error(self):
        for name in NAMES:
            with self.subTest(name):
                self.assertEqual(getattr(errors, name).__bases__, (errors.LandError,))
                self.assertEqual(getattr(errors, name).__name__, name)

    def test_no_class_stands_under_another(self):
        for name in NAMES:
            for other in NAMES:
                if name != other:
                    self.assertFalse(issubclass(getattr(errors, name), getattr(errors, other)), (name, other))

    def test_no_class_more(self):
        found = [name for name, thing in vars(errors).items() if isinstance(thing, type)]
        self.assertEqual(sorted(found), sorted(NAMES + ("LandError",)))

    def test_no_spot_has_the_field_at(self):
        self.assertEqual(errors.NoSpot(7).at, 7)
        self.assertEqual(errors.NoSpot(-1).at, -1)
        self.assertIsNone(errors.NoSpot(None).at)
        with self.assertRaises(errors.LandError) as told:
            raise errors.NoSpot(3)
        self.assertEqual(told.exception.at, 3)

    def test_no_spot_is_made_of_at(self):
        with self.assertRaises(TypeError):
            errors.NoSpot()

    def test_the_others_are_made_of_a_text_or_of_nothing(self):
        for name in NAMES + ("LandError",):
            if name != "NoSpot":
                with self.subTest(name):
                    kind = getattr(errors, name)
                    self.assertEqual(str(kind("a text")), "a text")
                    for made in (kind("a text"), kind()):
                        with self.assertRaises(ValueError) as told:
                            raise made
                        self.assertIs(type(told.exception), kind)


if __name__ == "__main__":
    unittest.main()
