"""What fits, what is as special, what is alike, and naming anew: [10]."""

import itertools
import unittest

from instances.patterns import are_alike, are_patterns, do_fit, is_as_special, named
from samples import INT, NIL, SIG, TREES, X, Y, YES, Z, ZERO, chain, plain_fit, plain_named, rows_up_to

ONE, OTHER = ("#", "type", 1), ("#", "type", 2)
PAIR = ("type", "type")


def ptr(term):
    return ("ptr", term)


def cons(first, rest):
    return ("cons", first, rest)


class DoFitTest(unittest.TestCase):
    def test_a_variable_wants_like_terms(self):
        for left, right in itertools.product((INT, ONE, OTHER, ptr(INT), ptr(ONE)), repeat=2):
            self.assertIs(do_fit(SIG, PAIR, (X, X), (left, right)), left == right)
            self.assertIs(do_fit(SIG, PAIR, (X, Y), (left, right)), True)
            self.assertIs(do_fit(SIG, PAIR, (ptr(X), X), (ptr(left), right)), left == right)
            self.assertIs(do_fit(SIG, PAIR, (X, ptr(X)), (left, ptr(right))), left == right)
            self.assertIs(do_fit(SIG, ("row",), (cons(X, cons(X, Y)),), (cons(left, cons(right, NIL)),)), left == right)
            self.assertIs(do_fit(SIG, ("type",) * 4, (X, Y, Y, X), (INT, left, right, INT)), left == right)

    def test_strangers_fit_variables_alone(self):
        self.assertIs(do_fit(SIG, ("type",), (X,), (ONE,)), True)
        self.assertIs(do_fit(SIG, ("type",), (INT,), (ONE,)), False)
        self.assertIs(do_fit(SIG, ("type",), (ptr(X),), (ONE,)), False)
        self.assertIs(do_fit(SIG, ("type",), (ptr(X),), (ptr(ONE),)), True)
        self.assertIs(do_fit(SIG, PAIR, (X, X), (("#", "type", 10 ** 19), ("#", "type", 10 ** 19))), True)

    def test_makers(self):
        self.assertIs(do_fit(SIG, ("count",), (ZERO,), (ZERO,)), True)
        self.assertIs(do_fit(SIG, ("count",), (("s", X),), (ZERO,)), False)
        self.assertIs(do_fit(SIG, ("count",), (ZERO,), (("s", ZERO),)), False)
        self.assertIs(do_fit(SIG, ("count",), (chain(3, X),), (chain(2, ZERO),)), False)
        self.assertIs(do_fit(SIG, ("count",), (chain(3, X),), (chain(3, ZERO),)), True)

    def test_against_plain_fitting(self):
        told = (("x", "type"), ("y", "type"), ("r", "row"))
        for kinds, depth in ((PAIR, 2), (("row",), 2), (("row", "type"), 1)):
            patterns = rows_up_to(SIG, kinds, depth, told)
            terms = rows_up_to(SIG, kinds, 2, (), (1, 2))
            for row, given in itertools.product(patterns, terms):
                self.assertIs(do_fit(SIG, kinds, row, given), plain_fit(row, given))

    def test_deep_and_great_ones(self):
        deep = chain(38, ZERO)
        self.assertIs(do_fit(SIG, ("count",) * 2, (X, X), (deep, chain(38, ZERO))), True)
        self.assertIs(do_fit(SIG, ("count",) * 2, (X, X), (deep, chain(37, ZERO))), False)
        self.assertIs(do_fit(SIG, ("count",) * 2, (chain(15, X), X), (chain(38, ZERO), chain(23, ZERO))), True)


class SpecialTest(unittest.TestCase):
    def test_of_itself_and_of_looser_ones(self):
        rows = [(INT, INT), (ptr(INT), INT), (ptr(X), X), (ptr(X), Y), (X, X), (X, Y)]
        for row in rows:
            self.assertIs(is_as_special(SIG, PAIR, row, row), True)
            self.assertIs(is_as_special(SIG, PAIR, row, (X, Y)), True)
            self.assertIs(is_as_special(SIG, PAIR, (Y, X), row), row == (X, Y))
        self.assertIs(is_as_special(SIG, PAIR, (INT, INT), (X, X)), True)
        self.assertIs(is_as_special(SIG, PAIR, (X, X), (INT, INT)), False)
        self.assertIs(is_as_special(SIG, PAIR, (ptr(INT), INT), (ptr(X), X)), True)
        self.assertIs(is_as_special(SIG, PAIR, (ptr(X), X), (X, X)), False)
        self.assertIs(is_as_special(SIG, PAIR, (X, X), (ptr(X), X)), False)
        self.assertIs(is_as_special(SIG, PAIR, (ptr(X), X), (ptr(X), Y)), True)
        self.assertIs(is_as_special(SIG, PAIR, (ptr(X), Y), (ptr(X), X)), False)

    def test_names_on_both_sides_are_things_of_their_own(self):
        self.assertIs(is_as_special(SIG, PAIR, (X, ptr(X)), (Y, X)), True)
        self.assertIs(is_as_special(SIG, PAIR, (ptr(X), X), (X, Y)), True)
        self.assertIs(is_as_special(SIG, PAIR, (Y, X), (X, Y)), True)
        self.assertIs(is_as_special(SIG, PAIR, (X, Y), (X, X)), False)
        self.assertIs(is_as_special(SIG, ("type",), (ptr(X),), (X,)), True)
        self.assertIs(is_as_special(SIG, ("type",), (X,), (ptr(X),)), False)
        # One name may even stand for things of two kinds on the two sides.
        self.assertIs(is_as_special(SIG, ("type", "count"), (X, Y), (Y, X)), True)

    def test_against_plain_fitting(self):
        told = (("x", "type"), ("y", "type"), ("r", "row"))
        for kinds, depth in ((PAIR, 2), (("row",), 2)):
            rows = rows_up_to(SIG, kinds, depth, told)
            for one, other in itertools.product(rows, repeat=2):
                special = is_as_special(SIG, kinds, one, other)
                self.assertIs(special, plain_fit(other, one))
                self.assertIs(are_alike(SIG, kinds, one, other), special and plain_fit(one, other))
                self.assertIs(are_alike(SIG, kinds, one, other), plain_named(one) == plain_named(other))

    def test_alike(self):
        for one, other, alike in (
            ((X, Y), (Y, X), True), ((X, Y), (Z, X), True), ((X, X), (Y, Y), True), ((X, X), (X, Y), False),
            ((X, Y), (X, X), False), ((ptr(X), Y), (ptr(Y), X), True), ((ptr(X), X), (ptr(Y), Y), True),
            ((ptr(X), X), (ptr(X), Y), False), ((INT, X), (INT, Y), True), ((INT, X), (X, INT), False),
            ((INT, INT), (INT, INT), True), ((INT, X), (INT, INT), False),
        ):
            self.assertIs(are_alike(SIG, PAIR, one, other), alike)
            self.assertIs(are_alike(SIG, PAIR, other, one), alike)


class NamedTest(unittest.TestCase):
    def test_in_the_order_in_which_they_first_stand(self):
        v1, v2, v3 = ("?", "v1"), ("?", "v2"), ("?", "v3")
        self.assertEqual(named(SIG, PAIR, (Y, X)), (v1, v2))
        self.assertEqual(named(SIG, PAIR, (X, X)), (v1, v1))
        self.assertEqual(named(SIG, PAIR, (v2, v1)), (v1, v2))
        self.assertEqual(named(SIG, PAIR, (ptr(v2), v2)), (ptr(v1), v1))
        self.assertEqual(named(SIG, PAIR, (INT, ptr(INT))), (INT, ptr(INT)))
        rows = (cons(v3, cons(v1, v2)), cons(v1, cons(v3, v2)))
        self.assertEqual(named(SIG, ("row", "row"), rows), (cons(v1, cons(v2, v3)), cons(v2, cons(v1, v3))))
        tree = (("three", X, Y, ("two", Z, X)),)
        self.assertEqual(named(TREES, ("tree",), tree), (("three", v1, v2, ("two", v3, v1)),))

    def test_many_variables(self):
        kinds = ("row",) * 4
        names = iter(range(100, 0, -1))
        rows = []
        for _ in kinds:
            row = ("?", f"v{next(names)}")
            for _ in range(3):
                row = cons(("?", f"v{next(names)}"), row)
            rows.append(row)
        self.assertEqual(named(SIG, kinds, tuple(rows)), plain_named(rows))
        self.assertIn("'v16'", repr(named(SIG, kinds, tuple(rows))))

    def test_named_is_alike_and_named_once_for_all(self):
        told = (("x", "type"), ("v1", "type"), ("v2", "row"))
        for kinds in (PAIR, ("row",), ("row", "type")):
            for row in rows_up_to(SIG, kinds, 2, told):
                anew = named(SIG, kinds, row)
                self.assertEqual(anew, plain_named(row))
                self.assertTrue(are_alike(SIG, kinds, row, anew))
                self.assertTrue(are_patterns(SIG, kinds, anew))
                self.assertEqual(named(SIG, kinds, anew), anew)

    def test_deep(self):
        self.assertEqual(named(SIG, ("count", "truth"), (chain(18, X), YES)), (chain(18, ("?", "v1")), YES))


if __name__ == "__main__":
    unittest.main()
