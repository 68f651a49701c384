"""Closed terms and patterns of any value: [8], [10]."""

import unittest

from instances.patterns import are_patterns, is_term
from samples import INT, KINDS, MAKERS, NIL, NO, SIG, TREES, X, Y, YES, Z, ZERO, chain, nested, odd_values, rows_up_to
from samples import terms_up_to

ALL = [kind for kind, _ in KINDS]


class IsTermTest(unittest.TestCase):
    def test_all_small_terms_are_terms_of_their_kind_alone(self):
        for signature in (SIG, TREES):
            names = [kind for kind, _ in signature[0]]
            for kind in names:
                for term in terms_up_to(signature, kind, 2, numbers=(1, 7)):
                    self.assertEqual([name for name in names if is_term(signature, name, term)], [kind])

    def test_strangers(self):
        for number in (1, 2, 10 ** 19, 10 ** 20, 10 ** 99):
            self.assertIs(is_term(SIG, "type", ("#", "type", number)), True)
            self.assertIs(is_term(SIG, "type", ("ptr", ("#", "type", number))), True)
            self.assertIs(is_term(SIG, "row", ("cons", ("#", "type", number), NIL)), True)
            for kind in ("count", "truth", "row"):
                self.assertIs(is_term(SIG, kind, ("#", kind, number)), False)
                self.assertIs(is_term(SIG, kind, ("#", "type", number)), False)
                self.assertIs(is_term(SIG, "type", ("#", kind, number)), False)
        self.assertIs(is_term(TREES, "bare", ("#", "bare", 1)), True)
        self.assertIs(is_term(TREES, "leaf", ("#", "bare", 1)), False)
        self.assertIs(is_term(TREES, "bare", ("#", "leaf", 1)), False)

    def test_wrong_strangers(self):
        for number in (0, -1, -10 ** 30, True, False, None, "1", "", (1,), [1], b"1", {}):
            self.assertIs(is_term(SIG, "type", ("#", "type", number)), False)
        for value in (
            ("#",), ("#", "type"), ("#", "type", 1, 1), ("#", 1, "type"), ["#", "type", 1], ("#", ("type",), 1),
            ("#", None, 1), ("#", ["type"], 1), ("type", 1), (("#",), "type", 1), ("##", "type", 1), (b"#", "type", 1),
        ):
            self.assertIs(is_term(SIG, "type", value), False)
            self.assertIs(is_term(SIG, "type", ("ptr", value)), False)

    def test_an_argument_more_or_less_or_of_another_kind(self):
        for value in (
            ("cons",), ("cons", INT), ("cons", INT, NIL, NIL), ("cons", NIL, INT), ("cons", INT, INT), ("nil", NIL),
            ("cons", ("ptr",), NIL), ("cons", ("ptr", INT, INT), NIL), ("cons", INT, ("nil", INT)), ("cons", NIL),
        ):
            self.assertIs(is_term(SIG, "row", value), False)
        self.assertIs(is_term(SIG, "row", ("cons", INT, ("cons", ("ptr", INT), NIL))), True)

    def test_variables_are_no_closed_terms(self):
        for kind in ALL:
            self.assertIs(is_term(SIG, kind, X), False)
        self.assertIs(is_term(SIG, "count", ("s", X)), False)
        self.assertIs(is_term(SIG, "row", ("cons", INT, X)), False)

    def test_a_maker_that_is_none(self):
        for value in (("k",), ("count",), ("type",), ("S", ZERO), ("",), ("!", "z"), ("s ", ZERO)):
            self.assertIs(is_term(SIG, "count", value), False)

    def test_anything(self):
        for value in odd_values():
            for kind in ALL:
                self.assertIs(is_term(SIG, kind, value), False)
            self.assertIs(is_term(SIG, "count", ("s", value)), False)
            self.assertIs(is_term(SIG, "row", ("cons", INT, value)), False)
            self.assertIs(is_term(SIG, "row", ("cons", value, NIL)), False)
            self.assertIs(is_term(SIG, "type", (value, INT)), False)
            self.assertIs(is_term(SIG, "type", ("#", value, 1)), False)
        for value in (["z"], "z", ("z", ()), ("s", "z"), ("s", ["z"]), ("s", (ZERO,)), (ZERO,)):
            self.assertIs(is_term(SIG, "count", value), False)

    def test_deep_and_great_ones(self):
        self.assertIs(is_term(SIG, "count", chain(39, ZERO)), True)
        self.assertIs(is_term(SIG, "count", chain(39, INT)), False)
        self.assertIs(is_term(SIG, "count", chain(59, ZERO)), True)
        self.assertIs(is_term(SIG, "count", nested(59, "z")), False)
        tree = ("at", ("a",))
        for _ in range(6):
            tree = ("two", tree, tree)
        self.assertIs(is_term(TREES, "tree", tree), True)
        self.assertIs(is_term(TREES, "tree", ("three", tree, ("b",), ("two", tree, ("at", tree)))), False)


class ArePatternsTest(unittest.TestCase):
    def test_variables_stand_for_any_kind(self):
        for kind in ALL:
            self.assertIs(are_patterns(SIG, (kind,), (X,)), True)
        self.assertIs(are_patterns(SIG, ("row",), (("cons", X, Y),)), True)
        self.assertIs(are_patterns(SIG, ("row",), (("cons", X, ("cons", X, Y)),)), True)

    def test_a_variable_of_one_kind_many_times(self):
        self.assertIs(are_patterns(SIG, ("type",) * 4, (X, X, X, X)), True)
        self.assertIs(are_patterns(SIG, ("type", "type"), (X, ("ptr", X))), True)
        self.assertIs(are_patterns(SIG, ("row", "type", "row"), (("cons", X, Y), ("ptr", ("ptr", X)), Y)), True)

    def test_a_variable_of_two_kinds(self):
        self.assertIs(are_patterns(SIG, ("type", "count"), (X, X)), False)
        self.assertIs(are_patterns(SIG, ("count", "type"), (("s", X), X)), False)
        self.assertIs(are_patterns(SIG, ("row",), (("cons", X, X),)), False)
        self.assertIs(are_patterns(SIG, ("row",), (("cons", X, ("cons", Y, X)),)), False)
        self.assertIs(are_patterns(SIG, ("row", "row"), (("cons", X, Y), X)), False)
        self.assertIs(are_patterns(SIG, ("row", "row"), (("cons", X, Y), Z)), True)

    def test_names_of_variables(self):
        for name in ("a", "z9_", "v1", "a" * 12, "int", "type", "x_1"):
            self.assertIs(are_patterns(SIG, ("type",), (("?", name),)), True)
        for name in ("", "a" * 13, "A", "_a", "1", "a b", "\u00e9", "?", None, True, 1, ("x",), ["x"], b"x", X):
            self.assertIs(are_patterns(SIG, ("type",), (("?", name),)), False)
            self.assertIs(are_patterns(SIG, ("type",), (("ptr", ("?", name)),)), False)
        for value in (("?",), ("?", "x", "x"), ["?", "x"], "?x", "x", ("x",), (("?",), "x"), ("??", "x"), (b"?", "x")):
            self.assertIs(are_patterns(SIG, ("type",), (value,)), False)

    def test_no_strangers(self):
        self.assertIs(are_patterns(SIG, ("type",), (("#", "type", 1),)), False)
        self.assertIs(are_patterns(SIG, ("type", "type"), (X, ("ptr", ("#", "type", 1)))), False)
        self.assertIs(are_patterns(SIG, ("row",), (("cons", ("#", "type", 1), X),)), False)

    def test_one_to_four_kinds(self):
        for many in range(1, 5):
            kinds = ("truth",) * many
            for given in range(6):
                self.assertIs(are_patterns(SIG, kinds, (YES,) * given), given == many)
                self.assertIs(are_patterns(SIG, kinds, [YES] * given), False)

    def test_an_argument_more_or_less_or_of_another_kind(self):
        for value in (("cons", X), ("cons", X, Y, Z), ("cons",), ("nil", X), ("cons", NIL, X), ("cons", X, INT)):
            self.assertIs(are_patterns(SIG, ("row",), (value,)), False)
        self.assertIs(are_patterns(SIG, ("row",), (INT,)), False)
        self.assertIs(are_patterns(SIG, ("type",), (ZERO,)), False)

    def test_all_small_patterns(self):
        told = (("x", "type"), ("y", "row"), ("z", "count"), ("w", "truth"))
        for kinds in (("row",), ("type", "count"), ("row", "truth")):
            for row in rows_up_to(SIG, kinds, 2, told):
                self.assertIs(are_patterns(SIG, kinds, row), True)
                self.assertIs(are_patterns(SIG, kinds + ("truth",), row + (NO,)), True)

    def test_anything(self):
        for value in odd_values():
            self.assertIs(are_patterns(SIG, ("count",), value), False)
            self.assertIs(are_patterns(SIG, ("count",), (value,)), False)
            self.assertIs(are_patterns(SIG, ("count", "type"), (X, value)), False)
            self.assertIs(are_patterns(SIG, ("count",), (("s", value),)), False)
            self.assertIs(are_patterns(SIG, ("count",), (("?", value),)), isinstance(value, str) and value in ("x", "count"))
        self.assertIs(are_patterns(SIG, ("count",), ZERO), False)
        self.assertIs(are_patterns(SIG, ("count",), X), False)

    def test_deep_ones(self):
        self.assertIs(are_patterns(SIG, ("count",), (chain(39, X),)), True)
        self.assertIs(are_patterns(SIG, ("count", "count"), (chain(18, X), X)), True)
        self.assertIs(are_patterns(SIG, ("count",), (chain(39, INT),)), False)
        self.assertEqual(SIG, (KINDS, MAKERS))


if __name__ == "__main__":
    unittest.main()
