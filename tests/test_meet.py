"""The meet of patterns: [11]."""

import itertools
import unittest

from instances.patterns import are_patterns, do_fit, is_as_special, meet, named
from samples import INT, NIL, SIG, TREES, X, Y, YES, Z, ZERO, chain, plain_fit, plain_meet, rows_up_to

PAIR = ("type", "type")
V1, V2, V3 = ("?", "v1"), ("?", "v2"), ("?", "v3")


def ptr(term):
    return ("ptr", term)


def two(one, other):
    return ("two", one, other)


class MeetTest(unittest.TestCase):
    def both_ways(self, signature, kinds, one, other, expected):
        self.assertEqual(meet(signature, kinds, one, other), expected)
        self.assertEqual(meet(signature, kinds, other, one), expected)

    def test_the_closer_one_named_anew(self):
        for row in ((INT, INT), (ptr(X), X), (Y, X), (ptr(Y), X), (X, ptr(ptr(X)))):
            anew = named(SIG, PAIR, row)
            self.both_ways(SIG, PAIR, row, row, anew)
            self.both_ways(SIG, PAIR, row, (X, Y), anew)
            self.both_ways(SIG, PAIR, row, (Y, X), anew)

    def test_closer_than_both(self):
        self.both_ways(SIG, PAIR, (ptr(X), Y), (X, ptr(Y)), (ptr(V1), ptr(V2)))
        self.both_ways(SIG, PAIR, (X, X), (INT, Y), (INT, INT))
        self.both_ways(SIG, PAIR, (X, X), (ptr(X), Y), (ptr(V1), ptr(V1)))
        self.both_ways(SIG, PAIR, (X, X), (ptr(X), ptr(Y)), (ptr(V1), ptr(V1)))
        self.both_ways(SIG, PAIR, (ptr(X), X), (Y, ptr(Z)), (ptr(ptr(V1)), ptr(V1)))

    def test_variables_many_times_on_both_sides(self):
        kinds = ("type",) * 4
        self.both_ways(SIG, kinds, (X, X, Y, Y), (X, Y, Y, X), (V1, V1, V1, V1))
        self.both_ways(SIG, kinds, (X, X, Y, Z), (X, Y, Y, Z), (V1, V1, V1, V2))
        self.both_ways(SIG, kinds, (X, X, Y, Y), (X, Y, Z, ptr(X)), (V1, V1, ptr(V1), ptr(V1)))
        self.both_ways(SIG, kinds, (X, Y, X, Y), (ptr(Y), INT, X, Y), (ptr(INT), INT, ptr(INT), INT))
        self.both_ways(SIG, kinds, (X, Y, X, Y), (ptr(Y), INT, X, Z), (ptr(V1), INT, ptr(V1), INT))
        rows = ("row", "row")
        self.both_ways(
            SIG, rows, (("cons", X, Y), ("cons", X, Z)), (X, X), (("cons", V1, V2), ("cons", V1, V2))
        )

    def test_names_in_common_are_apart(self):
        self.both_ways(SIG, ("type",), (X,), (ptr(X),), (ptr(V1),))
        self.both_ways(SIG, PAIR, (X, ptr(Y)), (ptr(X), Y), (ptr(V1), ptr(V2)))
        self.both_ways(SIG, PAIR, (X, Y), (Y, ptr(X)), (V1, ptr(V2)))
        self.both_ways(SIG, ("type", "count"), (X, Y), (Y, X), (V1, V2))
        self.both_ways(SIG, ("type", "count"), (ptr(X), Y), (Y, ("s", X)), (ptr(V1), ("s", V2)))

    def test_without_end(self):
        self.both_ways(SIG, PAIR, (X, X), (Y, ptr(Y)), None)
        self.both_ways(SIG, PAIR, (X, ptr(X)), (ptr(X), X), None)
        self.both_ways(SIG, ("type",) * 3, (X, Y, Y), (ptr(X), ptr(X), X), None)
        self.both_ways(SIG, ("type",) * 4, (X, ptr(X), Y, ptr(Y)), (X, Y, Y, X), None)
        self.both_ways(TREES, ("tree", "tree"), (X, X), (Y, two(("at", ("a",)), two(Y, Z))), None)
        self.both_ways(TREES, ("tree", "tree", "tree"), (X, X, Y), (Y, two(Z, Z), two(Y, Y)), (
            two(V1, V1), two(V1, V1), two(two(V1, V1), two(V1, V1)),
        ))

    def test_none_where_there_is_none(self):
        self.both_ways(SIG, ("type",), (INT,), (ptr(X),), None)
        self.both_ways(SIG, PAIR, (X, X), (INT, ptr(Y)), None)
        self.both_ways(SIG, PAIR, (X, Y), (INT, ptr(Y)), (INT, ptr(V1)))
        self.both_ways(SIG, ("truth", "type"), (("yes",), X), (("no",), X), None)
        self.both_ways(SIG, ("row",), (NIL,), (("cons", X, Y),), None)
        self.both_ways(SIG, ("type",) * 4, (X, X, Y, Y), (INT, Z, Z, ptr(X)), None)

    def test_against_plain_ways(self):
        # What is as special as both is as special as the meet, for all small patterns; and so are the instances.
        told = (("x", "type"), ("y", "type"))
        rows = rows_up_to(SIG, PAIR, 2, told)
        closed = rows_up_to(SIG, PAIR, 3, (), (1, 2))
        for one, other in itertools.product(rows, repeat=2):
            found = meet(SIG, PAIR, one, other)
            self.assertEqual(found, plain_meet(one, other))
            both = [row for row in rows if plain_fit(one, row) and plain_fit(other, row)]
            terms = [row for row in closed if plain_fit(one, row) and plain_fit(other, row)]
            if found is None:
                self.assertEqual((both, terms), ([], []))
                continue
            self.assertEqual(named(SIG, PAIR, found), found)
            self.assertTrue(plain_fit(one, found) and plain_fit(other, found))
            self.assertTrue(all(plain_fit(found, row) for row in both))
            self.assertEqual(terms, [row for row in closed if plain_fit(found, row)])

    def test_of_trees_against_robinson(self):
        told = (("x", "tree"), ("y", "tree"), ("w", "leaf"))
        rows = rows_up_to(TREES, ("tree",), 2, told)[::3]
        some = 0
        for one, other in itertools.product(rows, rows[::7]):
            found = meet(TREES, ("tree",), one, other)
            self.assertEqual(found, plain_meet(one, other))
            some += found is not None
        self.assertGreater(some, 100)
        for one, other in itertools.product(rows_up_to(TREES, ("tree", "tree"), 1, told), repeat=2):
            found = meet(TREES, ("tree", "tree"), one, other)
            self.assertEqual(found, plain_meet(one, other))
            self.assertEqual(found, meet(TREES, ("tree", "tree"), other, one))

    def test_the_interface_agrees_with_itself(self):
        told = (("x", "type"), ("r", "row"), ("q", "row"))
        rows = rows_up_to(SIG, ("row",), 2, told)
        for one, other in itertools.product(rows, repeat=2):
            found = meet(SIG, ("row",), one, other)
            self.assertEqual(found, meet(SIG, ("row",), other, one))
            if found is not None:
                self.assertTrue(are_patterns(SIG, ("row",), found))
                self.assertTrue(is_as_special(SIG, ("row",), found, one))
                self.assertTrue(is_as_special(SIG, ("row",), found, other))
            for given in ((NIL,), (("cons", INT, NIL),), (("cons", INT, ("cons", ("#", "type", 1), NIL)),)):
                fit = do_fit(SIG, ("row",), one, given) and do_fit(SIG, ("row",), other, given)
                self.assertIs(fit, found is not None and do_fit(SIG, ("row",), found, given))

    def test_great_ones(self):
        # Each place is told by the one ahead of it twice: terms grow fast, work does not.
        row = ("?", "a")
        for at in range(9):
            row = two(row, ("?", f"v{at}"))
        twice = ("?", "b")
        for at in range(9):
            twice = two(twice, twice)
        found = meet(TREES, ("tree",), (row,), (twice,))
        self.assertEqual(found, named(TREES, ("tree",), (twice,)))
        kinds = ("tree",) * 4
        one = (two(X, X), two(Y, Y), two(Z, Z), X)
        other = (X, two(X, X), two(two(X, X), two(X, X)), Y)
        shown = two(V1, V1)
        self.both_ways(TREES, kinds, one, other, (shown, two(shown, shown), two(two(shown, shown), two(shown, shown)), V1))

    def test_what_was_returned_may_be_passed(self):
        kinds = ("count",) * 4
        deep = (chain(16, X), X, Y, Z)
        found = (X, Y, Z, ("?", "w"))
        for row in (deep, (Z, chain(16, X), X, Y), (Y, Z, chain(16, X), X)):
            found = meet(SIG, kinds, found, row)
        self.assertEqual(found, (chain(48, V1), chain(32, V1), chain(16, V1), V1))
        last = meet(SIG, kinds, found, (X, Y, Z, chain(16, ZERO)))
        self.assertEqual(last, (chain(64, ZERO), chain(48, ZERO), chain(32, ZERO), chain(16, ZERO)))
        self.assertTrue(is_as_special(SIG, kinds, last, found))
        self.assertFalse(is_as_special(SIG, kinds, found, last))
        self.assertTrue(do_fit(SIG, kinds, found, last))
        self.assertEqual(named(SIG, kinds, found), found)

    def test_hundreds_deep(self):
        deep = chain(400, ZERO)
        self.assertEqual(meet(SIG, ("count", "count"), (X, X), (deep, Y)), (deep, deep))
        self.assertTrue(do_fit(SIG, ("count", "count"), (X, X), (deep, chain(400, ZERO))))
        self.assertEqual(meet(SIG, ("count", "truth"), (chain(400, X), Y), (X, YES)), (chain(400, V1), YES))


if __name__ == "__main__":
    unittest.main()
