"""Wrong arguments of what takes a signature and kinds, or a table, alone and several at once: [5], [6], [7] to [15]."""

import copy
import inspect
import itertools
import unittest

from instances import covers, patterns, runs, tables
from instances.errors import (
    InvalidKind, InvalidName, InvalidNumber, InvalidPatterns, InvalidRows, InvalidSignature, InvalidTable, InvalidTerms,
    InvalidUse, TemplateError,
)
from samples import INT, KINDS, MAKERS, NIL, NO, SIG, X, Y, YES, ZERO, nested, odd_values

PLACES = ("row", "type", "type")
PLUS = ("plus", ("count", "count"), "count", (((ZERO, Y), Y), ((("s", X), Y), ("s", ("!", "plus", X, Y)))))
SAME = ("same", ("type", "type"), "truth", (((X, Y), NO), ((X, X), YES)))
TABLE = (SIG, (PLUS, SAME))
RIGHT = {
    "signature": SIG,
    "kind": "type",
    "kinds": PLACES,
    "patterns": (("cons", X, Y), X, INT),
    "one": (NIL, X, X),
    "other": (Y, X, INT),
    "terms": (("cons", INT, NIL), ("#", "type", 3), INT),
    "value": None,
    "goal": (Y, X, X),
    "rows": ((NIL, X, Y), (("cons", X, Y), X, X)),
    "table": TABLE,
    "name": "same",
    "case": 1,
    "use": ("same", (INT, ("#", "type", 3))),
}
MODULES = {
    "instances.patterns": (
        "is_term", "are_patterns", "do_fit", "is_as_special", "are_alike", "named", "meet",
    ),
    "instances.covers": ("cover", "witness", "is_cover"),
    "instances.tables": ("verdict", "fault", "chosen_use", "closing"),
    "instances.runs": ("run", "instances"),
}
FILES = {"instances.patterns": patterns, "instances.covers": covers, "instances.tables": tables, "instances.runs": runs}
CALLS = {name: getattr(FILES[file], name) for file, names in MODULES.items() for name in names}
FUNCTIONS = {
    "is_term": ("signature", "kind", "value"),
    "are_patterns": ("signature", "kinds", "value"),
    "do_fit": ("signature", "kinds", "patterns", "terms"),
    "is_as_special": ("signature", "kinds", "one", "other"),
    "are_alike": ("signature", "kinds", "one", "other"),
    "named": ("signature", "kinds", "patterns"),
    "meet": ("signature", "kinds", "one", "other"),
    "cover": ("signature", "kinds", "goal", "rows"),
    "witness": ("signature", "kinds", "goal", "rows"),
    "is_cover": ("signature", "kinds", "goal", "rows", "value"),
    "verdict": ("table", "use"),
    "fault": ("table", "name"),
    "chosen_use": ("table", "name", "case"),
    "closing": ("table", "name"),
    "run": ("table", "use"),
    "instances": ("table", "use"),
}
STRANGE = ("#", "type", 1)
WRONG_SIGNATURES = [SIG[:1], list(SIG), (KINDS, list(MAKERS)), (MAKERS, KINDS), None, (), nested(59)]
WRONG_KINDS = ["kind", "", "Type", "z", None, True, 1, ("type",), ["type"], b"type", {}]
WRONG_PLACES = [
    (), ("type",) * 5, ("type", "kind"), ("kind", "type"), ["type"], "type", ("row", None), ("row", ("type",)), None,
    ("type", "type", "type", True), {"type": 1}, (["type"],), nested(59, "type"),
]
WRONG_PATTERNS = [
    (), (NIL,), (NIL, X), (NIL, X, X, X), [NIL, X, X], (X, X, X), (NIL, X, ZERO), (NIL, STRANGE, INT), (NIL, INT, None),
    (("cons", X, Y), Y, Y), (("cons", X), X, X), (NIL, INT, ("?", "X")), (NIL, INT, ["int"]), None, NIL, "x", (NIL, INT, "int"),
    (NIL, INT, nested(59)),
]
WRONG_TERMS = [
    ((), None), ((NIL,), None), ((NIL, INT), None), ((NIL, INT, INT, INT), None), ([NIL, INT, INT], None), (None, None),
    ("abc", None), ({}, None), (NIL, None),
    ((X, INT, INT), 0), ((INT, INT, INT), 0), ((None, None, None), 0), ((NIL, X, INT), 1), ((NIL, ("ptr", X), X), 1),
    ((NIL, NIL, NIL), 1), ((NIL, INT, ("#", "type", 0)), 2), ((NIL, INT, ("#", "type", True)), 2),
    ((NIL, STRANGE, ["int"]), 2), ((NIL, STRANGE, ("#", "row", 1)), 2), ((("cons", INT), INT, INT), 0),
    ((NIL, INT, "int"), 2), ((("cons", INT, Y), X, X), 0), ((NIL, INT, nested(59)), 2),
]
WRONG_ROWS = [
    ((NIL, X, X), 0), (((NIL, X, X),) * 41, None), ([(NIL, X, X)], None), (None, None), ("row", None), ({}, None), (True, None),
    (((NIL, X, X), (NIL, X)), 1), (((NIL, X, X), [NIL, X, X]), 1), (((NIL, X, X), (NIL, X, Y), (X, X, X), None), 2),
    (((NIL, X, X), (NIL, STRANGE, X)), 1), (((NIL, X, X),) * 39 + (NIL,), 39), ((NIL,) + ((NIL, X, X),) * 40, None),
    (((NIL, X, ZERO),), 0), ((nested(58),), 0), (((NIL, X, X), nested(58)), 1),
]
WRONG_TABLES = [
    SIG, (), None, (SIG,), [SIG, (PLUS,)], (SIG, [PLUS]), (SIG, PLUS), (SIG, (PLUS, PLUS)), (None, (PLUS,)), (TABLE,),
    (SIG, (PLUS, SAME), ()), ((KINDS, MAKERS[1:]), ()), (SIG, (SAME, ("plus", *PLUS[1:3], ((X, Y),)))), nested(59), "table", 5,
    (SIG, (("z", *PLUS[1:]),)), (SIG, (SAME,) * 13),
]
WRONG_NAMES = ["", "sam", "same ", "Same", "count", "z", b"same", ("same",), ["same"], None, True, 0, {}, nested(59), SAME]
WRONG_CASES = [2, -1, 10 ** 30, True, False, None, "1", "", (1,), [1], b"1", {}, nested(59), -10 ** 30]
WRONG_USES = [
    "same", ("same",), ("same", INT, INT), ("same", (INT, INT), ()), ("same", (INT, INT), 1), ["same", (INT, INT)], ("same", [INT, INT]), ("same", (INT,)), ("same", (INT,) * 3),
    ("same", ()), ("same", (INT, X)), ("same", (INT, NIL)), ("same", (INT, ("ptr",))), ("same", (INT, ("#", "row", 1))),
    ("same", (INT, ("#", "type", 0))), ("same", (INT, ("#", "type", True))), ("sam", (INT, INT)), ("z", ()), ("int", (INT, INT)),
    (("same",), (INT, INT)), (b"same", (INT, INT)), ("plus", (ZERO, INT)), ("plus", (ZERO,)), None, (), 1, nested(59),
    ("same", (INT, nested(58))), ("!", "same", INT, INT), ("same", (INT, ("!", "same", INT, INT))), ("same", None), ("same", "ab"),
]
ERRORS = {
    "signature": InvalidSignature, "kind": InvalidKind, "kinds": InvalidKind, "table": InvalidTable, "name": InvalidName,
    "case": InvalidNumber, "use": InvalidUse, "terms": InvalidTerms, "rows": InvalidRows,
}


def wrong_values(name):
    """Pairs of a wrong value for the parameter and what its error keeps."""
    if name == "terms":
        return WRONG_TERMS
    if name == "rows":
        return WRONG_ROWS
    several = {
        "signature": WRONG_SIGNATURES, "kind": WRONG_KINDS, "kinds": WRONG_PLACES, "table": WRONG_TABLES, "name": WRONG_NAMES,
        "case": WRONG_CASES, "use": WRONG_USES,
    }
    return [(value, value) for value in several.get(name, WRONG_PATTERNS)]


def error_of(name):
    """The class of its errors, and their attribute."""
    return ERRORS.get(name, InvalidPatterns), "index" if name in ("terms", "rows") else "given"


class ArgumentsTest(unittest.TestCase):
    def check(self, called, name, kept, arguments):
        call = CALLS[called]
        made, attribute = error_of(name)
        for way in ("by position", "by name", "by name, the other way round"):
            with self.subTest(called=called, name=name, way=way, arguments=arguments):
                with self.assertRaises(TemplateError) as raised:
                    if way == "by position":
                        call(*arguments.values())
                    elif way == "by name":
                        call(**arguments)
                    else:
                        call(**dict(reversed(arguments.items())))
                self.assertIs(raised.exception.__class__, made)
                if attribute == "given":
                    self.assertIs(raised.exception.given, kept)
                else:
                    self.assertEqual(raised.exception.index, kept)
                    self.assertNotIsInstance(raised.exception.index, bool)

    def checked(self, called):
        return [name for name in FUNCTIONS[called] if name != "value"]

    def test_parameters_have_the_told_names_and_order(self):
        for called, names in FUNCTIONS.items():
            call = CALLS[called]
            self.assertEqual(tuple(inspect.signature(call).parameters), names)
            self.assertIn(called, MODULES[call.__module__])

    def test_right_arguments_raise_nothing(self):
        for called, names in FUNCTIONS.items():
            call = CALLS[called]
            arguments = {name: RIGHT[name] for name in names}
            found = call(**arguments)
            self.assertEqual(found, call(*arguments.values()))
            if called in ("is_term", "are_patterns", "do_fit", "is_as_special", "are_alike", "is_cover"):
                self.assertIsInstance(found, bool)
            elif called not in ("cover", "witness", "fault"):
                self.assertIsInstance(found, tuple)

    def test_each_wrong_argument_alone(self):
        for called in FUNCTIONS:
            for name in self.checked(called):
                for value, kept in wrong_values(name):
                    arguments = {other: RIGHT[other] for other in FUNCTIONS[called]}
                    arguments[name] = value
                    self.check(called, name, kept, arguments)

    def test_several_wrong_arguments_the_first_is_told(self):
        for called in FUNCTIONS:
            names = self.checked(called)
            for many in range(2, len(names) + 1):
                for wrong in itertools.combinations(names, many):
                    for turn in range(6):
                        arguments = {name: RIGHT[name] for name in FUNCTIONS[called]}
                        for at, name in enumerate(wrong):
                            rows = wrong_values(name)
                            value, kept = rows[(turn * 5 + at) % len(rows)]
                            arguments[name] = value
                            if at == 0:
                                first = kept
                        self.check(called, wrong[0], first, arguments)

    def test_anything_for_each_argument(self):
        for called in FUNCTIONS:
            for name in self.checked(called):
                for value in odd_values():
                    if self.is_right(name, value):
                        continue
                    arguments = {other: RIGHT[other] for other in FUNCTIONS[called]}
                    arguments[name] = value
                    kept = value
                    if name == "terms":
                        kept = 0 if isinstance(value, tuple) and len(value) == len(PLACES) else None
                    if name == "rows":
                        kept = 0 if isinstance(value, tuple) else None
                    self.check(called, name, kept, arguments)

    def is_right(self, name, value):
        """Whether an odd value is right there."""
        if name == "kind":
            return isinstance(value, str) and value == "count"
        if name == "case":
            return isinstance(value, int) and not isinstance(value, bool) and value in (0, 1)
        return name == "rows" and isinstance(value, tuple) and value == ()

    def test_kinds_of_the_very_signature(self):
        other = ((("only", "open"),), ())
        self.check("is_term", "kind", "type", {"signature": other, "kind": "type", "value": INT})
        kinds = ("only", "type")
        self.check("are_patterns", "kinds", kinds, {"signature": other, "kinds": kinds, "value": (X, Y)})
        self.assertIs(patterns.is_term(other, "only", ("#", "only", 1)), True)

    def test_rows_up_to_forty(self):
        goal, row = (Y, X, X), (NIL, X, X)
        for called in ("cover", "witness", "is_cover"):
            more = ("value",) if called == "is_cover" else ()
            for many in (0, 1, 39, 40):
                told = CALLS[called](SIG, PLACES, goal, (row,) * many, *more)
                self.assertEqual(told is None or told is False, called != "witness")
            for rows, index in (((row,) * 41, None), ((row,) * 39 + (NIL,), 39), ((row,) * 40 + (NIL,), None)):
                arguments = dict(zip(FUNCTIONS[called], (SIG, PLACES, goal, rows, *more)))
                self.check(called, "rows", index, arguments)

    def test_names_cases_and_uses_of_the_very_table(self):
        other = (SIG, (("only", ("count",), "count", (((X,), X),)),))
        for called in ("fault", "chosen_use", "closing"):
            arguments = {"table": other, "name": "same", "case": 0}
            self.check(called, "name", "same", {name: arguments[name] for name in FUNCTIONS[called]})
        for case in (1, 2):
            self.check("chosen_use", "case", case, {"table": other, "name": "only", "case": case})
        self.assertEqual(tables.chosen_use(other, "only", 0)[0], "only")
        none = (SIG, (("only", ("count",), "count", ()),))
        self.check("chosen_use", "case", 0, {"table": none, "name": "only", "case": 0})
        for called in ("verdict", "run", "instances"):
            for use in (("same", (INT, INT)), ("only", (INT,)), ("only", (ZERO, ZERO))):
                self.check(called, "use", use, {"table": other, "use": use})

    def test_one_is_told_ahead_of_other(self):
        bad, worse = (NIL, X), (NIL, X, None)
        for called in ("is_as_special", "are_alike", "meet"):
            arguments = {"signature": SIG, "kinds": PLACES, "one": bad, "other": worse}
            self.check(called, "one", bad, arguments)
            self.check(called, "other", worse, {**arguments, "one": RIGHT["one"]})

    def test_nothing_is_changed(self):
        given = {
            "signature": [list(KINDS), [MAKERS]], "kind": ["type"], "kinds": ["row", ["type"]],
            "patterns": [NIL, [X]], "one": [[NIL], X], "other": [{"a": [1]}], "terms": [[NIL], {"b": []}], "value": [[1]],
            "goal": [[NIL], X], "rows": ([NIL], {"a": [1]}), "table": (SIG, [PLUS]), "name": ["same"], "case": [1],
            "use": ("same", [INT, [INT]]),
        }
        before = copy.deepcopy(given)
        for called, names in FUNCTIONS.items():
            for wrong in names:
                arguments = {name: RIGHT[name] for name in names}
                arguments[wrong] = given[wrong]
                if wrong == "value":
                    self.assertIs(CALLS[called](**arguments), False)
                else:
                    with self.assertRaises(TemplateError):
                        CALLS[called](**arguments)
                self.assertEqual(given, before)

    def test_equal_calls_return_equal_results(self):
        for called, names in FUNCTIONS.items():
            results = []
            for _ in range(3):
                results.append(CALLS[called](*[copy.deepcopy(RIGHT[name]) for name in names]))
            self.assertEqual(results[0], results[1])
            self.assertEqual(results[1], results[2])


if __name__ == "__main__":
    unittest.main()
