"""Trees of cases, covering, and instances that fit no row: [12], [13], [14]."""

import itertools
import random
import unittest

from instances.covers import cover, is_cover, witness
from instances.patterns import is_term
from instances.signatures import is_signature
from samples import (
    INT, NIL, NO, SIG, TREES, X, Y, YES, Z, ZERO, chain, odd_values, plain_fit, plain_put, plain_tree, rows_up_to,
    tree_size,
)

V, W, P, Q = ("?", "v"), ("?", "w"), ("?", "p"), ("?", "q")
S = ("s", X)
PTR = ("ptr", X)
COUNT, TRUTH, TYPE = ("count",), ("truth",), ("type",)


def leaf(index):
    return ("leaf", index)


def split(name, *parts):
    return ("split", name, parts)


class CoversTest(unittest.TestCase):
    def told(self, signature, kinds, goal, rows):
        """Whether the rows cover the goal, what is told for it being looked at apart."""
        tree = cover(signature, kinds, goal, rows)
        terms = witness(signature, kinds, goal, rows)
        self.assertNotEqual(tree is None, terms is None, (goal, rows))
        if tree is not None:
            self.assertTrue(plain_tree(signature, kinds, goal, rows, tree), (goal, rows, tree))
            self.assertIs(is_cover(signature, kinds, goal, rows, tree), True)
        else:
            self.assertIsInstance(terms, tuple)
            self.assertEqual(len(terms), len(kinds))
            for kind, term in zip(kinds, terms):
                self.assertIs(is_term(signature, kind, term), True)
            self.assertTrue(plain_fit(goal, terms), (goal, terms))
            self.assertFalse(any(plain_fit(row, terms) for row in rows), (goal, rows, terms))
        return tree is not None

    def covered(self, kinds, goal, *rows, signature=SIG):
        self.assertTrue(self.told(signature, kinds, goal, rows), rows)

    def uncovered(self, kinds, goal, *rows, signature=SIG):
        self.assertFalse(self.told(signature, kinds, goal, rows), rows)

    def test_no_rows_and_one_that_all_fits(self):
        for kinds in (COUNT, TRUTH, TYPE, ("row", "type", "truth", "count")):
            goal = tuple(("?", f"g{at}") for at in range(len(kinds)))
            self.uncovered(kinds, goal)
            self.covered(kinds, goal, tuple(("?", f"r{at}") for at in range(len(kinds))))
            self.assertEqual(cover(SIG, kinds, goal, (goal, goal)), leaf(0))
        self.assertEqual(witness(SIG, ("truth", "row"), (YES, NIL), ()), (YES, NIL))
        self.assertIsNone(witness(SIG, ("truth", "row"), (YES, NIL), ((X, Y),)))
        self.uncovered(("truth", "row"), (YES, NIL), (NO, X), (X, ("cons", Y, Z)))

    def test_the_only_tree_of_closed_kinds(self):
        self.assertEqual(cover(SIG, COUNT, (X,), ((S,), (ZERO,))), split("v1", leaf(1), leaf(0)))
        self.assertEqual(cover(SIG, TRUTH, (X,), ((YES,), (NO,))), split("v1", leaf(0), leaf(1)))
        self.assertEqual(
            cover(SIG, COUNT, (X,), ((("s", S),), (("s", ZERO),), (ZERO,))),
            split("v1", leaf(2), split("v1", leaf(1), leaf(0))),
        )
        rows = ((NIL,), (("cons", X, NIL),), (("cons", X, ("cons", Y, Z)),))
        self.assertEqual(cover(SIG, ("row",), (V,), rows), split("v1", leaf(0), split("v2", leaf(1), leaf(2))))
        # Named anew: what has been v2 is v1 when v1 gets a maker without arguments, v3 behind one of two.
        rows = (
            (NIL, ZERO), (NIL, S), (("cons", X, Y), ZERO), (("cons", X, NIL), ("s", P)),
            (("cons", X, ("cons", Y, Z)), ("s", P)),
        )
        tree = cover(SIG, ("row", "count"), (Y, X), rows)
        self.assertIn(tree, (
            split("v1", split("v1", leaf(0), leaf(1)), split("v3", leaf(2), split("v2", leaf(3), leaf(4)))),
            split("v2", split("v1", leaf(0), leaf(2)), split("v1", leaf(1), split("v2", leaf(3), leaf(4)))),
        ))

    def test_several_rows_that_lack_one(self):
        for rows in (
            ((ZERO,), (S,)), ((ZERO,), (("s", ZERO),), (("s", S),)), (*[(chain(n, ZERO),) for n in range(9)], (chain(9, X),)),
        ):
            self.covered(COUNT, (Y,), *rows)
            for at in range(len(rows)):
                self.uncovered(COUNT, (Y,), *rows[:at], *rows[at + 1:])
        self.uncovered(COUNT, (Y,), *[(chain(n, ZERO),) for n in range(40)])

    def test_a_variable_of_an_open_kind_is_never_split(self):
        self.uncovered(TYPE, (X,), (INT,), (PTR,))
        self.covered(TYPE, (X,), (INT,), (Y,))
        self.covered(TYPE, (INT,), (INT,))
        self.covered(TYPE, (PTR,), (PTR,))
        self.uncovered(TYPE, (PTR,), (("ptr", INT),), (("ptr", ("ptr", X)),))
        self.uncovered(("row",), (X,), (NIL,), (("cons", INT, X),), (("cons", ("ptr", Y), X),))
        self.covered(("row",), (X,), (NIL,), (("cons", INT, X),), (("cons", Y, X),))

    def test_strangers_are_all_unlike(self):
        pair = ("type", "type")
        self.uncovered(pair, (X, Y), (X, X))
        self.covered(pair, (X, X), (X, X))
        self.covered(pair, (X, X), (X, Y))
        self.uncovered(pair, (X, Y), (INT, Y), (PTR, Y), (X, X))
        terms = witness(SIG, pair, (X, Y), ((INT, Y), (PTR, Y), (X, X)))
        self.assertEqual((terms[0][0], terms[1][0], terms[0] == terms[1]), ("#", "#", False))
        self.covered(pair, (("ptr", X), ("ptr", X)), (X, X))
        # A stranger that comes by a split is unlike all that are there.
        self.uncovered(("row", "type"), (X, Y), (NIL, Y), (("cons", X, Y), X))
        self.uncovered(("row", "row"), (X, Y), (NIL, X), (X, NIL), (("cons", X, Y), ("cons", X, Z)))
        self.covered(("row", "row"), (X, Y), (NIL, X), (X, NIL), (("cons", X, Y), ("cons", Z, V)))

    def test_where_all_variables_are_open_one_row_covers_alone(self):
        pool = rows_up_to(SIG, ("type", "type"), 2, (("x", "type"), ("y", "type")))
        rng = random.Random(4)
        for _ in range(400):
            goal = rng.choice(pool)
            rows = rng.sample(pool, 6)
            expected = any(plain_fit(row, goal) for row in rows)
            self.assertEqual(self.told(SIG, ("type", "type"), goal, tuple(rows)), expected)

    def test_a_row_comes_to_help_when_what_it_wants_alike_is_small(self):
        self.covered(("count", "count"), (X, Y), (W, W), (("s", P), Q), (ZERO, ("s", Q)))
        self.uncovered(("count", "count"), (X, Y), (W, W), (("s", P), Q))
        self.uncovered(("count", "count"), (X, Y), (W, W), (("s", P), ZERO), (ZERO, ("s", Q)))
        self.covered(
            ("count", "count"), (X, Y), (W, W), (("s", ("s", P)), Q), (ZERO, ("s", Q)), (("s", ZERO), ZERO),
            (("s", P), ("s", ("s", Q))),
        )
        rows = (("row", "row"), (X, Y), (W, W), (("cons", X, Y), Z), (NIL, ("cons", X, Y)))
        self.covered(*rows)
        self.uncovered(*rows[:-1])
        self.uncovered(("row", "row"), (X, Y), (W, W), (NIL, ("cons", X, Y)), (("cons", X, Y), NIL))

    def test_small_kinds(self):
        self.covered(("truth",) * 3, (X, Y, Z), (X, X, Y), (X, Y, X), (Y, X, X))
        for rows in itertools.combinations(((X, X, Y), (X, Y, X), (Y, X, X)), 2):
            self.uncovered(("truth",) * 3, (X, Y, Z), *rows)
        self.covered(("truth", "truth"), (X, Y), (X, X), (YES, NO), (NO, YES))
        self.uncovered(("truth", "truth"), (X, Y), (X, X), (YES, NO))
        self.assertEqual(witness(SIG, ("truth", "truth"), (X, Y), ((X, X), (YES, NO))), (NO, YES))
        # Beside a count that nothing is asked of.
        self.covered(("count", "truth", "truth"), (X, Y, Z), (X, Y, Y), (X, YES, NO), (X, NO, YES))
        self.uncovered(("count", "truth", "truth"), (X, Y, Z), (X, Y, Y), (X, YES, NO), (ZERO, NO, YES))

    def test_kinds_of_one_term(self):
        signature = ((("one", "closed"), ("pair", "closed")), (("o", (), "one"), ("p", ("one", "one"), "pair")))
        self.covered(("one", "one"), (X, Y), (X, X), signature=signature)
        self.covered(("pair", "pair"), (X, Y), (X, X), signature=signature)
        self.covered(("pair", "one"), (X, Y), (("p", X, Y), X), signature=signature)
        self.covered(("pair", "one"), (X, Y), (("p", X, X), X), signature=signature)
        self.assertEqual(tree_size(cover(signature, ("one", "one"), (X, Y), ((X, X),))), 3)

    def test_great_kinds_with_one_maker(self):
        # Their terms are unlike by strangers alone.
        signature = (
            (("box", "closed"), ("thing", "open"), ("two", "closed")),
            (("in", ("thing",), "box"), ("b", ("box", "box"), "two")),
        )
        self.uncovered(("box", "box"), (X, Y), (X, X), signature=signature)
        self.uncovered(("two",), (X,), (("b", Y, Y),), signature=signature)
        self.covered(("two",), (X,), (("b", ("in", X), ("in", Y)),), signature=signature)
        self.uncovered(("box", "thing"), (X, Y), (("in", X), X), signature=signature)
        self.assertEqual(witness(signature, ("thing",), (X,), ())[0][0], "#")

    def test_many_unlike_terms_of_a_great_kind(self):
        # No two of nine counts alike: 36 rows.
        signature = (
            (("count", "closed"), ("many", "closed")),
            (("z", (), "count"), ("s", ("count",), "count"), ("m", ("count",) * 3, "many")),
        )
        rows = []
        for one, other in itertools.combinations(range(9), 2):
            names = [("?", f"n{at}") for at in range(9)]
            names[other] = names[one]
            rows.append((("m", *names[:3]), ("m", *names[3:6]), ("m", *names[6:])))
        self.uncovered(("many",) * 3, (X, Y, Z), *rows, signature=signature)
        # Nor one the next of another.
        rows = [row for one, other in itertools.permutations(range(4), 2) for row in [self.next_row(one, other)]]
        self.uncovered(("count",) * 4, (X, Y, Z, W), *rows)

    def next_row(self, one, other):
        names = [("?", f"n{at}") for at in range(4)]
        names[other] = ("s", names[one])
        return tuple(names)

    def test_pigeons(self):
        # Five things of four sorts: two are alike.
        signature = (
            (("sort", "closed"), ("things", "closed")),
            tuple((f"c{at}", (), "sort") for at in range(4)) + (("t", ("sort",) * 3, "things"),),
        )
        rows = []
        for one, other in itertools.combinations(range(5), 2):
            names = [("?", f"n{at}") for at in range(6)]
            names[other] = names[one]
            rows.append((("t", *names[:3]), ("t", *names[3:])))
        self.covered(("things", "things"), (X, Y), *rows, signature=signature)
        for at in range(len(rows)):
            self.uncovered(("things", "things"), (X, Y), *rows[:at], *rows[at + 1:], signature=signature)

    def test_a_small_kind_of_very_many_terms(self):
        kinds = tuple((f"k{at}", "closed") for at in range(8))
        makers = (("a", (), "k0"), ("b", (), "k0")) + tuple((f"m{at}", (f"k{at - 1}",) * 3, f"k{at}") for at in range(1, 8))
        signature = (kinds, makers)
        # Each term of k7 has 3280 parts: here a look at the tops alone.
        for rows in (((X, X),), ((("m7", X, Y, Y), Z),)):
            self.assertIsNone(cover(signature, ("k7", "k7"), (X, Y), rows))
        self.assertEqual(cover(signature, ("k7", "k7"), (X, Y), ((X, X), (("m7", X, Y, Z), W))), split("v1", leaf(1)))
        self.covered(("k2",), (X,), (("m2", X, Y, ("m1", ("a",), Z, W)),), (("m2", X, Y, ("m1", ("b",), Z, W)),), signature=signature)
        terms = witness(signature, ("k4", "k4"), (X, Y), ((X, X),))
        self.assertNotEqual(terms[0], terms[1])

    def test_goals_with_variables_several_times(self):
        pair = ("count", "count")
        self.covered(pair, (X, X), (X, X))
        self.covered(pair, (X, X), (ZERO, ZERO), (("s", X), ("s", Y)))
        self.uncovered(pair, (X, X), (ZERO, X), (("s", X), ("s", ZERO)))
        self.covered(pair, (X, ("s", X)), (ZERO, ("s", ZERO)), (("s", X), ("s", ("s", X))))
        self.uncovered(pair, (X, ("s", X)), (X, X))
        self.covered(("row", "row"), (("cons", X, Y), Y), (("cons", X, NIL), Y), (Z, ("cons", X, Y)))

    def test_all_rows_of_counts_and_truths_against_all_terms(self):
        for kinds, depth, variables in (
            (("count", "truth"), 2, (("x", "count"), ("y", "truth"))),
            (("truth", "truth"), 1, (("x", "truth"), ("y", "truth"))),
            (("count", "count"), 2, (("x", "count"), ("y", "count"))),
        ):
            pool = rows_up_to(SIG, kinds, depth, variables)
            terms = rows_up_to(SIG, kinds, 5)
            rng = random.Random(len(pool))
            for _ in range(300):
                rows = tuple(rng.choice(pool) for _ in range(rng.randint(1, 5)))
                goal = rng.choice(pool)
                asked = [row for row in terms if plain_fit(goal, row)]
                expected = all(any(plain_fit(row, term) for row in rows) for term in asked)
                self.assertEqual(self.told(SIG, kinds, goal, rows), expected, (goal, rows))

    def test_random_rows_of_random_signatures(self):
        rng = random.Random(11)
        told = []
        while len(told) < 2500:
            signature = self.random_signature(rng)
            kinds = tuple(rng.choice(signature[0])[0] for _ in range(rng.randint(1, 4)))
            goal = self.random_patterns(rng, signature, kinds, 0.8)
            open_ = rng.choice((0.3, 0.5, 0.7))
            rows = tuple(self.random_patterns(rng, signature, kinds, open_) for _ in range(rng.choice((1, 2, 4, 8, 15, 40))))
            told.append(self.told(signature, kinds, goal, rows))
        self.assertGreater(told.count(True), 300)
        self.assertGreater(told.count(False), 300)

    def random_signature(self, rng):
        while True:
            names = [f"k{at}" for at in range(rng.randint(1, 5))]
            kinds = tuple((name, rng.choice(("open", "closed", "closed"))) for name in names)
            makers = tuple(
                (f"m{at}", tuple(rng.choice(names) for _ in range(rng.choice((0, 0, 0, 1, 1, 2, 3)))), rng.choice(names))
                for at in range(rng.randint(1, 9))
            )
            if is_signature((kinds, makers)):
                return (kinds, makers)

    def random_patterns(self, rng, signature, kinds, open_):
        variables = {}

        def pattern(kind, depth):
            makers = [(name, needs) for name, needs, made in signature[1] if made == kind]
            if not makers or depth == 0 or rng.random() < open_:
                name = rng.choice([name for name in variables if variables[name] == kind] + [f"x{len(variables)}"])
                variables[name] = kind
                return ("?", name)
            name, needs = rng.choice(makers)
            return (name, *[pattern(need, depth - 1) for need in needs])

        return tuple(pattern(kind, 3) for kind in kinds)

    def test_forty_rows_four_places_eight_kinds_24_makers(self):
        kinds = tuple((f"kind{at}", "closed" if at % 2 else "open") for at in range(8))
        makers = tuple((f"m{at}", ("kind0", "kind1", "kind2")[:at % 4], f"kind{at % 8}") for at in range(24))
        signature = (kinds, (("last", (), "kind1"), *makers[1:]))
        self.assertTrue(is_signature(signature))
        places = ("kind1", "kind3", "kind5", "kind7")
        goal = (X, Y, Z, W)
        last = ("last",)
        self.uncovered(places, goal, *[(last, Y, Z, W)] * 40, signature=signature)
        self.covered(places, goal, *[(last, Y, Z, W)] * 39, (X, Y, Z, W), signature=signature)
        self.assertEqual(cover(signature, places, goal, ((last, Y, Z, W),) * 39 + (goal,)), leaf(39))
        each = [(row_of(maker, needs), X, Y, Z) for maker, needs, kind in signature[1] if kind == "kind1"]
        self.covered(places, goal, *each, signature=signature)
        self.uncovered(places, goal, *each[:-1], signature=signature)

    def test_forty_rows_that_are_all_needed(self):
        rows = [(chain(n, ZERO),) for n in range(39)] + [(chain(39, X),)]
        self.covered(COUNT, (Y,), *rows)
        self.uncovered(COUNT, (Y,), *rows[:20], *rows[21:])
        self.assertEqual(witness(SIG, COUNT, (Y,), tuple(rows[:20] + rows[21:])), (chain(20, ZERO),))

    def test_very_deep(self):
        deep = chain(350, X)
        self.assertEqual(cover(SIG, COUNT, (deep,), ((X,),)), leaf(0))
        self.assertEqual(cover(SIG, COUNT, (deep,), ((deep,),)), leaf(0))
        self.assertEqual(witness(SIG, COUNT, (deep,), ((chain(350, S),),)), (chain(350, ZERO),))
        self.assertEqual(cover(SIG, COUNT, (deep,), ((chain(350, ZERO),), (chain(351, X),))), split("v1", leaf(0), leaf(1)))
        tree = cover(SIG, COUNT, (X,), ((deep,), (ZERO,)))
        self.assertIsNone(tree)
        self.assertEqual(witness(SIG, COUNT, (X,), ((deep,), (ZERO,))), (chain(1, ZERO),))

    def test_trees_hundreds_deep(self):
        one = leaf(1)
        for _ in range(300):
            one = split("v1", leaf(0), one)
        rows = ((ZERO,), (Y,))
        self.assertFalse(is_cover(SIG, COUNT, (X,), rows, one))
        self.assertTrue(is_cover(SIG, COUNT, (X,), ((Y,), (Y,)), one))

    def test_trees_over_trees(self):
        kinds = ("tree", "leaf")
        two = ("two", X, Y)
        self.covered(kinds, (X, Y), (("at", X), Y), (two, Z), (("three", X, Y, Z), W), signature=TREES)
        self.uncovered(kinds, (X, Y), (("at", X), Y), (two, Z), (("three", X, Y, X), W), signature=TREES)
        self.uncovered(kinds, (X, Y), (("at", X), Y), (two, Z), (("three", X, Y, Z), Y), signature=TREES)
        self.uncovered(
            kinds, (X, Y), (("at", X), Y), (("two", X, X), Z), (("two", ("two", X, Y), Z), W), (("two", X, ("two", Y, Z)), W),
            (("three", X, Y, Z), W), signature=TREES,
        )


def row_of(maker, needs):
    return (maker, *[("?", f"of{at}") for at in range(len(needs))])


class IsCoverTest(unittest.TestCase):
    rows = ((ZERO,), (S,))
    right = split("v1", leaf(0), leaf(1))

    def yes(self, kinds, goal, rows, tree):
        self.assertIs(is_cover(SIG, kinds, goal, rows, tree), True)

    def no(self, kinds, goal, rows, tree):
        self.assertIs(is_cover(SIG, kinds, goal, rows, tree), False)

    def test_any_tree_will_do(self):
        self.yes(COUNT, (X,), self.rows, self.right)
        self.yes(COUNT, (X,), self.rows, split("v1", leaf(0), split("v1", leaf(1), leaf(1))))
        self.yes(COUNT, (X,), ((X,),), leaf(0))
        self.yes(COUNT, (X,), ((X,),), split("v1", leaf(0), split("v1", leaf(0), leaf(0))))
        self.yes(COUNT, (Y,), ((ZERO,), (ZERO,), (X,), (S,)), split("v1", leaf(1), leaf(3)))
        self.yes(COUNT, (Y,), ((ZERO,), (ZERO,), (X,), (S,)), leaf(2))
        self.yes(("count", "count"), (X, Y), ((ZERO, X), (S, Y)), split("v2", self.right, split("v1", leaf(0), leaf(1))))

    def test_leaves(self):
        for index in (1, 2, -1, -2, 10 ** 30, True, False, None, "0", (0,), [0], b"0"):
            self.no(COUNT, (ZERO,), self.rows, leaf(index))
        self.yes(COUNT, (ZERO,), self.rows, leaf(0))
        self.no(COUNT, (X,), self.rows, leaf(0))
        self.no(COUNT, (X,), (), leaf(0))
        self.no(COUNT, (X,), (), leaf(-1))
        for tree in ((), ("leaf",), ("leaf", 0, 0), ["leaf", 0], ("Leaf", 0), (b"leaf", 0), "leaf", ("leaf", 0, ()), 0, None):
            self.no(COUNT, (ZERO,), self.rows, tree)

    def test_the_goals_variables_are_unlike_all_else(self):
        self.no(("count", "count"), (X, Y), ((W, W), (ZERO, Y)), leaf(0))
        self.no(("count", "count"), (X, Y), ((W, W), (ZERO, Y)), leaf(1))
        self.yes(("count", "count"), (X, X), ((W, W), (ZERO, Y)), leaf(0))
        self.no(("type", "type"), (X, Y), ((W, W),), leaf(0))
        self.no(TYPE, (X,), ((INT,), (PTR,)), leaf(0))

    def test_splits(self):
        for parts in ((), (leaf(0),), (leaf(0), leaf(1), leaf(1)), (leaf(1), leaf(0)), (leaf(0), leaf(0)), (leaf(0), None)):
            self.no(COUNT, (X,), self.rows, ("split", "v1", parts))
        for parts in ([leaf(0), leaf(1)], {0: leaf(0)}, None, "leaf", leaf(0)):
            self.no(COUNT, (X,), self.rows, ("split", "v1", parts))
        for name in ("x", "v0", "v2", "v01", "V1", "", None, 1, True, b"v1", ("v1",), X, "v1 ", "new0"):
            self.no(COUNT, (X,), self.rows, ("split", name, (leaf(0), leaf(1))))
        for tree in (("split", "v1"), ("split", "v1", self.right[2], ()), list(self.right), ("Split", *self.right[1:]), "split"):
            self.no(COUNT, (X,), self.rows, tree)
        self.no(COUNT, (ZERO,), ((X,),), split("v1", leaf(0), leaf(0)))

    def test_open_kinds_are_not_split(self):
        self.no(TYPE, (X,), ((INT,), (PTR,)), split("v1", leaf(0), leaf(1)))
        self.no(TYPE, (X,), ((X,),), split("v1", leaf(0), leaf(0)))
        self.no(("row",), (X,), ((X,),), split("v1", leaf(0), split("v1", leaf(0), leaf(0))))
        self.yes(("row",), (X,), ((X,),), split("v1", leaf(0), split("v2", leaf(0), leaf(0))))

    def test_named_anew_below_each_split(self):
        rows = ((ZERO, ZERO), (ZERO, S), (("s", X), ZERO), (("s", X), ("s", Y)))
        pair = ("count", "count")
        self.yes(pair, (Y, X), rows, split("v1", split("v1", leaf(0), leaf(1)), split("v2", leaf(2), leaf(3))))
        self.no(pair, (Y, X), rows, split("v1", split("v2", leaf(0), leaf(1)), split("v2", leaf(2), leaf(3))))
        self.no(pair, (Y, X), rows, split("v1", split("v1", leaf(0), leaf(1)), split("v1", leaf(2), leaf(3))))
        self.yes(pair, (Y, X), rows, split("v2", split("v1", leaf(0), leaf(2)), split("v1", leaf(1), leaf(3))))
        self.yes(pair, (("s", Y), X), rows, split("v2", leaf(2), leaf(3)))
        self.no(pair, (("s", Y), X), rows, split("v1", leaf(2), leaf(3)))
        # A variable that stands twice is one variable.
        self.yes(pair, (X, X), rows, split("v1", leaf(0), leaf(3)))
        self.no(pair, (X, X), rows, split("v2", leaf(0), leaf(3)))
        lists = ((NIL, X), (("cons", X, Y), YES), (("cons", X, Y), NO))
        self.yes(("row", "truth"), (X, Y), lists, split("v1", leaf(0), split("v3", leaf(1), leaf(2))))
        self.no(("row", "truth"), (X, Y), lists, split("v1", leaf(0), split("v2", leaf(1), leaf(2))))

    def test_a_goal_with_names_of_its_own(self):
        v1, v2 = ("?", "v1"), ("?", "v2")
        rows = ((ZERO, X), (S, Y))
        self.yes(("count", "count"), (v2, v1), rows, split("v1", leaf(0), leaf(1)))
        self.no(("count", "count"), (v2, v1), rows, split("v2", leaf(0), leaf(1)))
        self.yes(("count", "count"), (("?", "new0"), v1), rows, split("v1", leaf(0), leaf(1)))

    def test_whatever_the_last_argument_is(self):
        for value in odd_values():
            self.no(COUNT, (X,), self.rows, value)
            self.no(COUNT, (X,), self.rows, ("leaf", value) if value not in (0, 1) or isinstance(value, bool) else None)
            self.no(COUNT, (X,), self.rows, ("split", value, (leaf(0), leaf(1))))
            self.no(COUNT, (X,), self.rows, ("split", "v1", value))
            self.no(COUNT, (X,), self.rows, ("split", "v1", (leaf(0), value)))
            self.no(COUNT, (X,), self.rows, (value, 0))
            self.no(COUNT, (X,), self.rows, (value, "v1", (leaf(0), leaf(1))))


if __name__ == "__main__":
    unittest.main()
