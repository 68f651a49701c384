"""The error classes, [5] and instances/errors.py."""

import inspect
import unittest

from instances import errors

GIVEN = (
    "InvalidSignature", "InvalidKind", "InvalidPatterns", "InvalidNumber", "InvalidTable", "InvalidName",
    "InvalidUse", "InvalidProgram", "Unformed", "Unsound", "NoValue",
)
INDEX = ("InvalidTerms", "InvalidRows", "InvalidText", "InvalidLines")
SPOT = ("BadLabel",)
ATTRIBUTES = [(name, "given") for name in GIVEN] + [(name, "index") for name in INDEX] + [
    (name, "spot") for name in SPOT
]
FOREIGN = (LookupError, ArithmeticError, TypeError, AttributeError, RuntimeError, StopIteration)


def some_values():
    return [None, True, False, 0, -1, 10 ** 50, "", "text", b"bytes", (), (1, (2,)), [], [1], {}, {"a": []}, object()]


class ErrorsTest(unittest.TestCase):
    def test_each_class_keeps_the_very_value_by_position_and_by_name(self):
        for name, attribute in ATTRIBUTES:
            made = getattr(errors, name)
            for value in some_values():
                with self.subTest(name=name, value=value):
                    self.assertIs(getattr(made(value), attribute), value)
                    self.assertIs(getattr(made(**{attribute: value}), attribute), value)

    def test_a_list_that_changes_later_is_still_the_same_list(self):
        for name, attribute in ATTRIBUTES:
            value = [1]
            error = getattr(errors, name)(value)
            value.append(2)
            self.assertEqual(getattr(error, attribute), [1, 2])
            self.assertIs(getattr(error, attribute), value)

    def test_each_class_wants_just_its_attribute(self):
        for name, attribute in ATTRIBUTES:
            made = getattr(errors, name)
            with self.assertRaises(TypeError):
                made()
            with self.assertRaises(TypeError):
                made(1, 2)
            with self.assertRaises(TypeError):
                made(other=1)
            self.assertEqual(list(inspect.signature(made).parameters), [attribute])

    def test_all_stand_straight_under_the_base_and_under_nothing_else(self):
        for name, _ in ATTRIBUTES:
            made = getattr(errors, name)
            self.assertEqual(made.__bases__, (errors.TemplateError,))
            self.assertIn("__init__", vars(made))
            for foreign in FOREIGN:
                self.assertFalse(issubclass(made, foreign))
        self.assertEqual(errors.TemplateError.__bases__, (ValueError,))

    def test_there_are_no_other_classes(self):
        names = {name for name, value in vars(errors).items() if inspect.isclass(value)}
        self.assertEqual(names, {name for name, _ in ATTRIBUTES} | {"TemplateError"})
        for name in names:
            self.assertEqual(getattr(errors, name).__module__, "instances.errors")

    def test_the_base_has_no_attributes_and_is_made_of_nothing(self):
        error = errors.TemplateError()
        self.assertEqual(vars(error), {})
        with self.assertRaises(ValueError):
            raise error

    def test_a_raised_one_is_caught_by_the_base_and_not_by_another_class(self):
        for name, attribute in ATTRIBUTES:
            made = getattr(errors, name)
            for caught in (made, errors.TemplateError, ValueError):
                value = [name]
                with self.assertRaises(caught) as raised:
                    raise made(value)
                self.assertIs(getattr(raised.exception, attribute), value)
            for other, _ in ATTRIBUTES:
                self.assertEqual(issubclass(made, getattr(errors, other)), name == other)


if __name__ == "__main__":
    unittest.main()
