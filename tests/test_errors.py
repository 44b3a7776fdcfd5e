import unittest

from scanranges import errors

PLAIN = [
    "InvalidSizes", "InvalidSet", "InvalidBox", "InvalidOrder", "InvalidCondition", "InvalidKey", "InvalidTable",
    "InvalidWish", "InvalidBoxes", "InvalidNumber", "OtherSizes", "EmptyBox", "AlreadyThere", "NotThere", "TooMany",
    "NothingToUndo",
]
ALL = PLAIN + ["InvalidText"]


class ErrorClasses(unittest.TestCase):
    """Point 5."""

    def test_scan_error_is_a_value_error(self):
        self.assertEqual(errors.ScanError.__bases__, (ValueError,))
        self.assertIsInstance(errors.ScanError("why"), ValueError)

    def test_seventeen_direct_subclasses(self):
        self.assertEqual(len(set(ALL)), 17)
        for name in ALL:
            with self.subTest(name):
                self.assertEqual(getattr(errors, name).__bases__, (errors.ScanError,))
                self.assertEqual(getattr(errors, name).__name__, name)
                self.assertEqual(getattr(errors, name).__module__, "scanranges.errors")

    def test_there_are_no_others(self):
        found = [name for name, thing in vars(errors).items() if isinstance(thing, type)]
        self.assertEqual(sorted(found), sorted(ALL + ["ScanError"]))

    def test_none_is_a_subclass_of_another_one(self):
        for name in ALL:
            for other in ALL:
                inside = issubclass(getattr(errors, name), getattr(errors, other))
                self.assertEqual(inside, name == other, (name, other))
            for builtin in (LookupError, TypeError, ArithmeticError, UnicodeError, RuntimeError):
                self.assertFalse(issubclass(getattr(errors, name), builtin))

    def test_sixteen_are_made_with_one_string(self):
        for name in PLAIN:
            with self.subTest(name):
                error = getattr(errors, name)("what is wrong")
                self.assertEqual(str(error), "what is wrong")

    def test_each_can_be_raised_and_caught(self):
        for name in ALL:
            for caught in (getattr(errors, name), errors.ScanError, ValueError):
                with self.subTest(name, caught=caught):
                    with self.assertRaises(caught):
                        raise getattr(errors, name)(3 if name == "InvalidText" else "why")


class PlaceOfATextError(unittest.TestCase):
    def test_by_position(self):
        for place in (0, 1, 12, 10 ** 30):
            self.assertEqual(errors.InvalidText(place).place, place)

    def test_by_name(self):
        for place in (0, 1, 12, 10 ** 30):
            self.assertEqual(errors.InvalidText(place=place).place, place)

    def test_the_place_is_needed(self):
        self.assertRaises(TypeError, errors.InvalidText)


if __name__ == "__main__":
    unittest.main()
