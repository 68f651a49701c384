"""Wrong arguments of instances/patterns.py, alone and several at once: [5], [6], [7], [8], [10]."""

import copy
import inspect
import itertools
import unittest

from instances import patterns as module
from instances.errors import InvalidKind, InvalidPatterns, InvalidSignature, InvalidTerms, TemplateError
from samples import INT, KINDS, MAKERS, NIL, SIG, X, Y, ZERO, nested, odd_values

PLACES = ("row", "type", "type")
RIGHT = {
    "signature": SIG,
    "kind": "type",
    "kinds": PLACES,
    "patterns": (("cons", X, Y), X, INT),
    "one": (NIL, X, X),
    "other": (Y, X, INT),
    "terms": (("cons", INT, NIL), ("#", "type", 3), INT),
    "value": None,
}
FUNCTIONS = {
    "is_term": ("signature", "kind", "value"),
    "are_patterns": ("signature", "kinds", "value"),
    "do_fit": ("signature", "kinds", "patterns", "terms"),
    "is_as_special": ("signature", "kinds", "one", "other"),
    "are_alike": ("signature", "kinds", "one", "other"),
    "named": ("signature", "kinds", "patterns"),
    "meet": ("signature", "kinds", "one", "other"),
}
STRANGE = ("#", "type", 1)
WRONG_SIGNATURES = [SIG[:1], list(SIG), (KINDS, list(MAKERS)), (MAKERS, KINDS), None, (), nested(59)]
WRONG_KINDS = ["kind", "", "Type", "z", None, True, 1, ("type",), ["type"], b"type", {}]
WRONG_PLACES = [
    (), ("type",) * 5, ("type", "kind"), ("kind", "type"), ["type"], "type", ("row", None), ("row", ("type",)), None,
    ("type", "type", "type", True), {"type": 1}, (["type"],), nested(59, "type"),
]
WRONG_PATTERNS = [
    (), (NIL,), (NIL, X), (NIL, X, X, X), [NIL, X, X], (X, X, X), (NIL, X, ZERO), (NIL, STRANGE, INT), (NIL, INT, None),
    (("cons", X, Y), Y, Y), (("cons", X), X, X), (NIL, INT, ("?", "X")), (NIL, INT, ["int"]), None, NIL, "x", (NIL, INT, "int"),
    (NIL, INT, nested(59)),
]
WRONG_TERMS = [
    ((), None), ((NIL,), None), ((NIL, INT), None), ((NIL, INT, INT, INT), None), ([NIL, INT, INT], None), (None, None),
    ("abc", None), ({}, None), (NIL, None),
    ((X, INT, INT), 0), ((INT, INT, INT), 0), ((None, None, None), 0), ((NIL, X, INT), 1), ((NIL, ("ptr", X), X), 1),
    ((NIL, NIL, NIL), 1), ((NIL, INT, ("#", "type", 0)), 2), ((NIL, INT, ("#", "type", True)), 2),
    ((NIL, STRANGE, ["int"]), 2), ((NIL, STRANGE, ("#", "row", 1)), 2), ((("cons", INT), INT, INT), 0),
    ((NIL, INT, "int"), 2), ((("cons", INT, Y), X, X), 0), ((NIL, INT, nested(59)), 2),
]


def wrong_values(name):
    """Pairs of a wrong value for the parameter and what its error keeps."""
    if name == "terms":
        return WRONG_TERMS
    several = {"signature": WRONG_SIGNATURES, "kind": WRONG_KINDS, "kinds": WRONG_PLACES}
    return [(value, value) for value in several.get(name, WRONG_PATTERNS)]


def error_of(name):
    """The class of its errors, and their attribute."""
    if name == "terms":
        return InvalidTerms, "index"
    return {"signature": InvalidSignature, "kind": InvalidKind, "kinds": InvalidKind}.get(name, InvalidPatterns), "given"


class ArgumentsTest(unittest.TestCase):
    def check(self, called, name, kept, arguments):
        call = getattr(module, called)
        made, attribute = error_of(name)
        for way in ("by position", "by name", "by name, the other way round"):
            with self.subTest(called=called, name=name, way=way, arguments=arguments):
                with self.assertRaises(TemplateError) as raised:
                    if way == "by position":
                        call(*arguments.values())
                    elif way == "by name":
                        call(**arguments)
                    else:
                        call(**dict(reversed(arguments.items())))
                self.assertIs(raised.exception.__class__, made)
                if attribute == "given":
                    self.assertIs(raised.exception.given, kept)
                else:
                    self.assertEqual(raised.exception.index, kept)
                    self.assertNotIsInstance(raised.exception.index, bool)

    def checked(self, called):
        return [name for name in FUNCTIONS[called] if name != "value"]

    def test_parameters_have_the_told_names_and_order(self):
        for called, names in FUNCTIONS.items():
            call = getattr(module, called)
            self.assertEqual(tuple(inspect.signature(call).parameters), names)
            self.assertEqual(call.__module__, "instances.patterns")

    def test_right_arguments_raise_nothing(self):
        for called, names in FUNCTIONS.items():
            call = getattr(module, called)
            arguments = {name: RIGHT[name] for name in names}
            found = call(**arguments)
            self.assertEqual(found, call(*arguments.values()))
            if called not in ("named", "meet"):
                self.assertIsInstance(found, bool)
            else:
                self.assertIsInstance(found, tuple)

    def test_each_wrong_argument_alone(self):
        for called in FUNCTIONS:
            for name in self.checked(called):
                for value, kept in wrong_values(name):
                    arguments = {other: RIGHT[other] for other in FUNCTIONS[called]}
                    arguments[name] = value
                    self.check(called, name, kept, arguments)

    def test_several_wrong_arguments_the_first_is_told(self):
        for called in FUNCTIONS:
            names = self.checked(called)
            for many in range(2, len(names) + 1):
                for wrong in itertools.combinations(names, many):
                    for turn in range(6):
                        arguments = {name: RIGHT[name] for name in FUNCTIONS[called]}
                        for at, name in enumerate(wrong):
                            rows = wrong_values(name)
                            value, kept = rows[(turn * 5 + at) % len(rows)]
                            arguments[name] = value
                            if at == 0:
                                first = kept
                        self.check(called, wrong[0], first, arguments)

    def test_anything_for_each_argument(self):
        for called in FUNCTIONS:
            for name in self.checked(called):
                for value in odd_values():
                    if name == "kind" and isinstance(value, str) and value == "count":
                        continue
                    arguments = {other: RIGHT[other] for other in FUNCTIONS[called]}
                    arguments[name] = value
                    kept = value
                    if name == "terms":
                        kept = 0 if isinstance(value, tuple) and len(value) == len(PLACES) else None
                    self.check(called, name, kept, arguments)

    def test_kinds_of_the_very_signature(self):
        other = ((("only", "open"),), ())
        self.check("is_term", "kind", "type", {"signature": other, "kind": "type", "value": INT})
        kinds = ("only", "type")
        self.check("are_patterns", "kinds", kinds, {"signature": other, "kinds": kinds, "value": (X, Y)})
        self.assertIs(module.is_term(other, "only", ("#", "only", 1)), True)

    def test_one_is_told_ahead_of_other(self):
        bad, worse = (NIL, X), (NIL, X, None)
        for called in ("is_as_special", "are_alike", "meet"):
            arguments = {"signature": SIG, "kinds": PLACES, "one": bad, "other": worse}
            self.check(called, "one", bad, arguments)
            self.check(called, "other", worse, {**arguments, "one": RIGHT["one"]})

    def test_nothing_is_changed(self):
        given = {
            "signature": [list(KINDS), [MAKERS]], "kind": ["type"], "kinds": ["row", ["type"]],
            "patterns": [NIL, [X]], "one": [[NIL], X], "other": [{"a": [1]}], "terms": [[NIL], {"b": []}], "value": [[1]],
        }
        before = copy.deepcopy(given)
        for called, names in FUNCTIONS.items():
            for wrong in names:
                arguments = {name: RIGHT[name] for name in names}
                arguments[wrong] = given[wrong]
                if wrong == "value":
                    self.assertIs(getattr(module, called)(**arguments), False)
                else:
                    with self.assertRaises(TemplateError):
                        getattr(module, called)(**arguments)
                self.assertEqual(given, before)

    def test_equal_calls_return_equal_results(self):
        for called, names in FUNCTIONS.items():
            results = []
            for _ in range(3):
                results.append(getattr(module, called)(*[copy.deepcopy(RIGHT[name]) for name in names]))
            self.assertEqual(results[0], results[1])
            self.assertEqual(results[1], results[2])


if __name__ == "__main__":
    unittest.main()
