"""Point 5: the classes of the errors."""

import unittest

from accordions import errors
from accordions.errors import AccordionsError, HiddenError

NAMES = ("InvalidPlanError", "InvalidStateError", "InvalidSectionError", "InvalidSectionsError", "InvalidClicksError",
         "InvalidViewsError", "InvalidNumberError", "InvalidFormatError", "NotFittingError", "EmptyHistoryError")


class ErrorsTest(unittest.TestCase):
    def test_base_is_a_direct_subclass_of_value_error(self):
        self.assertEqual(AccordionsError.__bases__, (ValueError,))
        self.assertEqual(str(AccordionsError("word")), "word")

    def test_each_other_class_is_a_direct_subclass(self):
        for name in NAMES + ("HiddenError",):
            with self.subTest(name=name):
                kind = getattr(errors, name)
                self.assertEqual(kind.__bases__, (AccordionsError,))
                self.assertEqual(kind.__name__, name)
                self.assertEqual(kind.__module__, "accordions.errors")

    def test_there_are_no_other_classes(self):
        found = {name for name, value in vars(errors).items() if isinstance(value, type)}
        self.assertEqual(found, set(NAMES) | {"AccordionsError", "HiddenError"})

    def test_constructed_with_one_string(self):
        for name in NAMES:
            with self.subTest(name=name):
                error = getattr(errors, name)("some words")
                self.assertEqual(error.args, ("some words",))
                self.assertEqual(str(error), "some words")

    def test_each_is_caught_as_what_it_is_and_as_no_other(self):
        kinds = [getattr(errors, name) for name in NAMES] + [HiddenError]
        for kind in kinds:
            error = kind(3) if kind == HiddenError else kind("words")
            self.assertIsInstance(error, AccordionsError)
            self.assertIsInstance(error, ValueError)
            self.assertEqual([other for other in kinds if isinstance(error, other)], [kind])

    def test_hidden_error_has_its_turn(self):
        for turn in (0, 1, 299):
            self.assertEqual(HiddenError(turn).turn, turn)
            self.assertEqual(HiddenError(turn=turn).turn, turn)
        self.assertIsInstance(str(HiddenError(3)), str)
        for wrong in ((), (1, 2)):
            with self.assertRaises(TypeError):
                HiddenError(*wrong)


if __name__ == "__main__":
    unittest.main()
