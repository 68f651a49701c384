"""Wrong arguments of what takes a table or a program, and of what stands behind: [5], [6], [22] to [38]."""

import copy
import inspect
import itertools
import unittest

from instances import certificates, checker, console, endings, labels, texts, units
from instances.errors import (
    BadLabel, InvalidKind, InvalidLines, InvalidName, InvalidNumber, InvalidPatterns, InvalidProgram, InvalidRows, InvalidSignature,
    InvalidTable, InvalidText, InvalidUse, NoValue, TemplateError, Unformed, Unsound,
)
from programs import BOTH, GROW, LAST, LESS, ONE, PLUS, PROGRAM, SWAP, TABLE, table_of
from samples import INT, NIL, SIG, X, Y, ZERO, nested, odd_values
from test_arguments import WRONG_NAMES, WRONG_PATTERNS, WRONG_PLACES, WRONG_ROWS, WRONG_SIGNATURES, WRONG_TABLES, WRONG_USES

FILES = {"endings": endings, "units": units, "texts": texts, "labels": labels, "certificates": certificates}
FUNCTIONS = {
    "endings.groups": ("table",),
    "endings.carried": ("table", "name"),
    "endings.is_formed": ("table",),
    "endings.loop": ("table",),
    "endings.is_round": ("table", "value"),
    "endings.roads": ("table",),
    "units.unit_verdict": ("program", "one", "use"),
    "units.needed": ("table", "name", "patterns"),
    "units.unlike": ("program", "one", "other", "name"),
    "units.link": ("program",),
    "texts.show_program": ("program",),
    "texts.read_program": ("text",),
    "labels.label_of": ("table", "use"),
    "labels.read_label": ("table", "text"),
    "labels.listing": ("table", "use"),
    "certificates.certify_cover": ("signature", "kinds", "goal", "rows"),
    "certificates.certify_choice": ("table", "name"),
    "certificates.certify_case": ("table", "name", "case"),
    "certificates.certify_run": ("table", "use"),
    "certificates.certify_ending": ("table",),
    "certificates.certify_units": ("program", "one", "other", "name"),
}
# All that takes a table takes this one, which is formed and sound.
SOUND = (SIG, (TABLE[1][1], PLUS))
RIGHT = {
    "table": SOUND, "name": "same", "value": None, "program": PROGRAM, "one": 0, "other": 1, "use": ("same", (INT, ("#", "type", 3))),
    "patterns": (X, ("ptr", Y)), "case": 1, "signature": SIG, "kinds": ("row", "type", "type"), "goal": (Y, X, X),
    "rows": ((NIL, X, Y), (("cons", X, Y), X, X)),
}
TEXT = {"texts.read_program": "kind a open", "labels.read_label": "4same3int3int"}
WRONG_NUMBERS = [2, -1, 10 ** 30, True, False, None, "1", "0", "", (0,), [0], b"0", {}, nested(59), -10 ** 30]
WRONG_PROGRAMS = [
    TABLE, (), None, (TABLE,), [TABLE, ()], (TABLE, [LAST]), (TABLE, LAST), (TABLE, (LAST, LAST)), (PROGRAM,), ((SIG, ()), (LAST,)),
    (TABLE, (LAST, LESS), ()), (TABLE, ((*LAST[:2], (("same", (INT,)),)),)), (TABLE, (("a", ((0, 1), (0, 1)), ()),)), nested(59), "program", 7,
    (TABLE, tuple((f"u{at}", LAST[1], ()) for at in range(7))), (SIG, (LAST,)), (TABLE, (("a", ((1, 0), (), ()), ()),)),
]
WRONG_TWO_PATTERNS = [
    (), (X,), (X, Y, X), [X, Y], (X, ZERO), (INT, ("#", "type", 1)), (INT, None), (("ptr",), X), (("?", "X"), X), None, X, "x", (INT, ["int"]),
    (INT, nested(59)), ("same", (X, Y)), (("!", "same", X, Y), X),
]
WRONG_VALUES = {
    "table": WRONG_TABLES, "name": WRONG_NAMES, "program": WRONG_PROGRAMS, "one": WRONG_NUMBERS, "other": WRONG_NUMBERS, "case": WRONG_NUMBERS,
    "use": WRONG_USES, "patterns": WRONG_TWO_PATTERNS, "signature": WRONG_SIGNATURES, "kinds": WRONG_PLACES, "goal": WRONG_PATTERNS,
    "text": [None, 1, True, b"kind a open", (), ("kind a open",), ["kind"], {}, nested(59)],
}
ERRORS = {
    "table": InvalidTable, "name": InvalidName, "program": InvalidProgram, "one": InvalidNumber, "other": InvalidNumber, "case": InvalidNumber,
    "use": InvalidUse, "patterns": InvalidPatterns, "signature": InvalidSignature, "kinds": InvalidKind, "goal": InvalidPatterns,
    "rows": InvalidRows,
}


def call_of(called):
    """The function of this name."""
    file, name = called.split(".")
    return getattr(FILES[file], name)


def right(called):
    """Right arguments of the function."""
    return {name: TEXT[called] if name == "text" else RIGHT[name] for name in FUNCTIONS[called]}


def wrong_values(name):
    """Pairs of a wrong value and what its error keeps."""
    if name == "rows":
        return WRONG_ROWS
    return [(value, None if name == "text" else value) for value in WRONG_VALUES[name]]


def error_of(called, name):
    """The class of its error, and its attribute."""
    if name == "text":
        return (InvalidText, "index") if called == "texts.read_program" else (BadLabel, "spot")
    return ERRORS[name], "index" if name == "rows" else "given"


class ArgumentsTest(unittest.TestCase):
    def check(self, called, name, kept, arguments):
        call = call_of(called)
        made, attribute = error_of(called, name)
        for way in ("by position", "by name", "by name, the other way round"):
            with self.subTest(called=called, name=name, way=way, arguments=arguments):
                with self.assertRaises(TemplateError) as raised:
                    if way == "by position":
                        call(*arguments.values())
                    elif way == "by name":
                        call(**arguments)
                    else:
                        call(**dict(reversed(arguments.items())))
                self.assertIs(raised.exception.__class__, made)
                found = getattr(raised.exception, attribute)
                if attribute == "given":
                    self.assertIs(found, kept)
                else:
                    self.assertEqual(found, kept)

    def checked(self, called):
        return [name for name in FUNCTIONS[called] if name != "value"]

    def test_parameters_have_the_told_names_and_order(self):
        for called, names in FUNCTIONS.items():
            call = call_of(called)
            self.assertEqual(tuple(inspect.signature(call).parameters), names)
            self.assertEqual(call.__module__, "instances." + called.split(".")[0])
        for call, names in (
            (units.is_program, ("value",)), (checker.accepts, ("claim", "paper")), (console.fresh_console, ()), (console.said, ("console", "line")),
            (console.told_all, ("console", "lines")),
        ):
            self.assertEqual(tuple(inspect.signature(call).parameters), names)

    def test_by_position_and_by_name(self):
        for called in FUNCTIONS:
            arguments = right(called)
            found = call_of(called)(**arguments)
            self.assertEqual(found, call_of(called)(*arguments.values()))
            self.assertEqual(found, call_of(called)(*copy.deepcopy(list(arguments.values()))))
        self.assertIs(checker.accepts(paper=(), claim=("ends", table_of())), True)
        self.assertIs(units.is_program(value=PROGRAM), True)
        self.assertEqual(console.said(line="rows", console=console.fresh_console())[1], "0")
        self.assertEqual(console.told_all(lines=("rows",), console=console.fresh_console())[1], ("0",))

    def test_kinds_of_values(self):
        for called, kind in (
            ("endings.groups", tuple), ("endings.carried", tuple), ("endings.is_formed", bool), ("endings.is_round", bool), ("endings.roads", tuple),
            ("units.unit_verdict", tuple), ("units.needed", tuple), ("units.link", tuple), ("texts.show_program", str), ("labels.label_of", str),
            ("labels.read_label", tuple), ("labels.listing", str), ("certificates.certify_cover", tuple), ("certificates.certify_choice", tuple),
            ("certificates.certify_case", tuple), ("certificates.certify_run", tuple), ("certificates.certify_ending", tuple),
            ("certificates.certify_units", tuple),
        ):
            self.assertIs(type(call_of(called)(**right(called))), kind)

    def test_each_wrong_argument_alone(self):
        for called in FUNCTIONS:
            for name in self.checked(called):
                for value, kept in wrong_values(name):
                    if called == "texts.read_program" and isinstance(value, str):
                        continue
                    arguments = right(called)
                    arguments[name] = value
                    self.check(called, name, kept, arguments)

    def test_several_wrong_arguments_the_first_is_told(self):
        for called in FUNCTIONS:
            names = self.checked(called)
            for many in range(2, len(names) + 1):
                for wrong in itertools.combinations(names, many):
                    for turn in range(6):
                        arguments = right(called)
                        for at, name in enumerate(wrong):
                            rows = wrong_values(name)
                            value, kept = rows[(turn * 5 + at) % len(rows)]
                            arguments[name] = value
                            if at == 0:
                                first = kept
                        self.check(called, wrong[0], first, arguments)

    def test_anything_for_each_argument(self):
        for called in FUNCTIONS:
            for name in self.checked(called):
                for value in odd_values():
                    if name == "text" and isinstance(value, str):
                        continue
                    if name in ("one", "other", "case") and isinstance(value, int) and not isinstance(value, bool) and value in (0, 1):
                        continue
                    if name == "rows" and isinstance(value, tuple) and value == ():
                        continue
                    kept = None if name == "text" else value
                    if name == "rows":
                        kept = 0 if isinstance(value, tuple) else None
                    arguments = right(called)
                    arguments[name] = value
                    self.check(called, name, kept, arguments)

    def test_numbers_and_names_of_the_very_program(self):
        one = (TABLE, (LAST,))
        self.check("units.unlike", "other", 1, {"program": one, "one": 0, "other": 1, "name": "same"})
        self.check("units.unlike", "one", 1, {"program": one, "one": 1, "other": 1, "name": "same"})
        self.check("certificates.certify_units", "other", 1, {"program": one, "one": 0, "other": 1, "name": "same"})
        self.check("units.unit_verdict", "one", 0, {"program": (TABLE, ()), "one": 0, "use": ("same", (INT, INT))})
        self.check("units.unlike", "name", "swap", {"program": one, "one": 0, "other": 0, "name": "swap"})
        two = (X, Y)
        self.check("units.needed", "patterns", two, {"table": table_of(GROW), "name": "grow", "patterns": two})
        self.check("certificates.certify_case", "case", 3, {"table": TABLE, "name": "both", "case": 3})
        # A use of a case that the unit does not see is a use.
        self.assertEqual(units.unit_verdict((TABLE, (("u", ((), (), ()), ()),)), 0, ("same", (INT, INT))), ("none",))

    def test_what_is_told_last(self):
        bad = ("same", (INT,))
        for called in ("labels.listing", "certificates.certify_run"):
            self.check(called, "use", bad, {"table": TABLE, "use": bad})
            double = ("both", (("ptr", INT), ("ptr", INT)))
            with self.assertRaises(NoValue) as raised:
                call_of(called)(TABLE, double)
            self.assertEqual(raised.exception.given, ("two", double))
        for called in ("endings.loop", "endings.roads", "certificates.certify_ending"):
            for table, made, name in ((table_of(BOTH, GROW), Unformed, "grow"), (table_of(SWAP, BOTH), Unsound, "both")):
                with self.assertRaises(TemplateError) as raised:
                    call_of(called)(table)
                self.assertIs(raised.exception.__class__, made)
                self.assertEqual(raised.exception.given, name)
            self.check(called, "table", GROW, {"table": GROW})
        # Where nothing is said of it, any table will do.
        for called in ("endings.groups", "endings.is_formed"):
            call_of(called)(table_of(BOTH, GROW))

    def test_nothing_is_changed(self):
        given = {
            "table": (SIG, [PLUS]), "name": ["same"], "value": [[1]], "program": (TABLE, [LAST]), "one": [0], "other": {"a": 0},
            "use": ("same", [INT, [INT]]), "patterns": [X, [Y]], "case": [1], "signature": [[]], "kinds": ["row", ["type"]], "goal": [[NIL], X],
            "rows": ([NIL], {"a": [1]}), "text": ["kind"],
        }
        before = copy.deepcopy(given)
        for called in FUNCTIONS:
            for wrong in FUNCTIONS[called]:
                arguments = right(called)
                arguments[wrong] = given[wrong]
                if wrong == "value":
                    self.assertIs(call_of(called)(**arguments), False)
                else:
                    with self.assertRaises(TemplateError):
                        call_of(called)(**arguments)
                self.assertEqual(given, before)
        claim = ["covered", SIG, ["count"], [X], [[ZERO]]]
        paper = ["leaf", [0]]
        kept = copy.deepcopy((claim, paper))
        self.assertIs(checker.accepts(claim, paper), False)
        self.assertIs(checker.accepts(tuple(claim), paper), False)
        self.assertIs(checker.accepts(("covered", SIG, ("count",), (X,), ((X,),)), paper), False)
        self.assertEqual((claim, paper), kept)
        lines = ["rows", 5]
        with self.assertRaises(InvalidLines):
            console.told_all(console.fresh_console(), lines)
        self.assertEqual(lines, ["rows", 5])

    def test_what_is_returned_may_be_passed(self):
        claim, paper = certificates.certify_ending(SOUND)
        self.assertIs(checker.accepts(claim, paper), True)
        found = endings.loop(table_of(SWAP))
        self.assertIs(endings.is_round(table_of(SWAP), found), True)
        self.assertEqual(labels.read_label(TABLE, labels.label_of(TABLE, ("plus", (ONE, ZERO)))), ("plus", (ONE, ZERO)))
        self.assertEqual(texts.read_program(texts.show_program(PROGRAM)), PROGRAM)


if __name__ == "__main__":
    unittest.main()
