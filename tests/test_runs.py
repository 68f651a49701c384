"""Runs of uses, their bounds, and instances: [20], [21]."""

import random
import unittest

from instances.runs import instances, run
from instances.tables import is_table
from samples import INT, NIL, NO, SIG, X, Y, YES, Z, ZERO, chain, plain_run, rows_up_to, size_of

W = ("?", "w")
S = ("s", X)
TWO = chain(2, ZERO)
PLUS = ("plus", ("count", "count"), "count", (((ZERO, Y), Y), ((S, Y), ("s", ("!", "plus", X, Y)))))
TIMES = ("times", ("count", "count"), "count", (((ZERO, Y), ZERO), ((S, Y), ("!", "plus", Y, ("!", "times", X, Y)))))
EVER = ("ever", ("count",), "count", (((X,), ("!", "ever", X)),))
GREAT = ("great",)

# Binary trees, and trees of three.
WOOD = (
    (("tree", "closed"),),
    (("l", (), "tree"), ("n", ("tree",), "tree"), ("b", ("tree", "tree"), "tree"), ("t", ("tree",) * 3, "tree")),
)
LEAF = ("l",)


def use(name, *args):
    return ("!", name, *args)


def one_case(name, params, result, patterns, body):
    """A definition of one case."""
    return (name, params, result, ((patterns, body),))


def tree(depth):
    """A full binary tree, 2 ** depth - 1 parts."""
    return LEAF if depth == 1 else ("b", tree(depth - 1), tree(depth - 1))


def of_size(size, deepest=30):
    """A tree of this size that is not deep."""
    if size <= deepest:
        return LEAF if size == 1 else ("n", of_size(size - 1))
    half = (size - 1) // 2
    return ("b", of_size(half), of_size(size - 1 - half))


def nest(depth, inner=LEAF):
    """Trees with one argument each, so deep in all, if the inner one is without arguments."""
    for _ in range(depth - 1):
        inner = ("n", inner)
    return inner


class RunsTest(unittest.TestCase):
    def told(self, definitions, asked, signature=SIG):
        """What the run tells; it and the instances are what the plain way tells."""
        table = (signature, tuple(definitions))
        self.assertIs(is_table(table), True)
        answer, found = plain_run(table, asked)
        self.assertEqual(run(table, asked), answer)
        self.assertEqual(instances(table, asked), found)
        return answer

    def test_the_documents(self):
        self.assertEqual(self.told((PLUS,), ("plus", (TWO, TWO))), ("value", chain(4, ZERO)))
        self.assertEqual(self.told((PLUS, TIMES), ("times", (TWO, TWO))), ("value", chain(4, ZERO)))
        self.assertEqual(len(instances((SIG, (PLUS, TIMES)), ("times", (TWO, TWO)))), 9)
        self.assertEqual(self.told((EVER,), ("ever", (ZERO,))), ("round", ("ever", (ZERO,))))
        self.assertEqual(
            instances((SIG, (PLUS,)), ("plus", (chain(1, ZERO), ZERO))),
            ((("plus", (ZERO, ZERO)), 0, ZERO), (("plus", (chain(1, ZERO), ZERO)), 1, chain(1, ZERO))),
        )

    def test_bodies_without_inner_uses(self):
        first = one_case("first", ("row",), "row", (("cons", X, Y),), ("cons", X, ("cons", X, NIL)))
        asked = ("first", (("cons", ("#", "type", 7), NIL),))
        value = ("cons", ("#", "type", 7), ("cons", ("#", "type", 7), NIL))
        self.assertEqual(self.told((first,), asked), ("value", value))
        self.assertEqual(instances((SIG, (first,)), asked), ((asked, 0, value),))
        same = ("same", ("type", "type"), "truth", (((X, Y), NO), ((X, X), YES)))
        self.assertEqual(self.told((same,), ("same", (("#", "type", 1), ("#", "type", 1)))), ("value", YES))
        self.assertEqual(self.told((same,), ("same", (("#", "type", 1), ("#", "type", 2)))), ("value", NO))
        self.assertEqual(instances((SIG, (same,)), ("same", (INT, INT))), ((("same", (INT, INT)), 1, YES),))

    def test_arguments_are_run_ahead_from_the_left(self):
        down = ("down", ("count",), "count", (((ZERO,), ZERO), ((S,), X)))
        up = one_case("up", ("count",), "count", (X,), ("s", X))
        body = ("s", use("plus", use("down", use("up", X)), use("up", use("down", ("s", ("s", X))))))
        top = one_case("top", ("count",), "count", (X,), body)
        self.told((PLUS, down, up, top), ("top", (TWO,)))
        found = instances((SIG, (PLUS, down, up, top)), ("top", (ZERO,)))
        one = chain(1, ZERO)
        self.assertEqual([name for (name, args), case, value in found], ["up", "down", "down", "up", "plus", "top"])
        self.assertEqual([args for (name, args), case, value in found], [(ZERO,), (one,), (TWO,), (one,), (ZERO, TWO), (ZERO,)])
        self.assertEqual(found[-1], (("top", (ZERO,)), 0, chain(3, ZERO)))

    def test_what_comes_first_is_told(self):
        none = ("none", ("count",), "count", ((((("s", ZERO)),), ZERO),))
        two = ("two", ("count", "count"), "count", (((ZERO, X), X), ((X, ZERO), X), ((S, Y), Y)))
        for body, answer in (
            (use("plus", use("none", X), use("two", X, X)), ("none", ("none", (ZERO,)))),
            (use("plus", use("two", X, X), use("none", X)), ("two", ("two", (ZERO, ZERO)))),
            (use("none", use("two", X, X)), ("two", ("two", (ZERO, ZERO)))),
            (use("two", X, use("none", ("s", ("s", X)))), ("none", ("none", (TWO,)))),
            (use("plus", use("top", X), use("none", X)), ("round", ("top", (ZERO,)))),
            (use("plus", use("none", X), use("top", X)), ("none", ("none", (ZERO,)))),
            (use("none", chain(41, X)), GREAT),
            (use("plus", use("none", X), chain(41, X)), ("none", ("none", (ZERO,)))),
            (use("plus", chain(41, X), use("none", X)), ("none", ("none", (ZERO,)))),
            (use("plus", chain(41, X), X), GREAT),
            (use("plus", use("plus", chain(41, X), X), use("none", X)), GREAT),
        ):
            top = one_case("top", ("count",), "count", (X,), body)
            self.assertEqual(self.told((PLUS, none, two, top), ("top", (ZERO,))), answer, body)
            self.assertIsNone(instances((SIG, (PLUS, none, two, top)), ("top", (ZERO,))))

    def test_the_use_itself_stops(self):
        none = ("none", ("count",), "count", ((((("s", ZERO)),), ZERO),))
        two = ("two", ("count", "count"), "count", (((ZERO, X), X), ((X, ZERO), X)))
        self.assertEqual(self.told((none,), ("none", (ZERO,))), ("none", ("none", (ZERO,))))
        self.assertEqual(self.told((two,), ("two", (ZERO, ZERO))), ("two", ("two", (ZERO, ZERO))))
        self.assertEqual(self.told((("f", ("count",), "count", ()),), ("f", (TWO,))), ("none", ("f", (TWO,))))

    def test_uses_that_come_round(self):
        even = ("even", ("count",), "truth", (((ZERO,), use("odd", ("s", ZERO))), ((S,), use("odd", X))))
        odd = ("odd", ("count",), "truth", (((ZERO,), NO), ((S,), use("even", X))))
        self.assertEqual(self.told((even, odd), ("even", (chain(3, ZERO),))), ("value", NO))
        # even 2, odd 1, even 0, odd 1.
        self.assertEqual(self.told((even, odd), ("even", (TWO,))), ("round", ("odd", (chain(1, ZERO),))))
        # In an argument of itself.
        self.assertEqual(
            self.told((one_case("f", ("count",), "count", (X,), use("f", use("f", X))),), ("f", (ZERO,))),
            ("round", ("f", (ZERO,))),
        )
        # What has been run is not being run.
        twice = one_case("twice", ("count",), "count", (X,), use("plus", use("plus", X, X), use("plus", X, X)))
        self.assertEqual(self.told((PLUS, twice), ("twice", (TWO,))), ("value", chain(8, ZERO)))

    def test_each_use_is_run_once(self):
        fib = ("fib", ("count",), "count", (
            ((ZERO,), ZERO), ((("s", ZERO),), ("s", ZERO)),
            ((("s", S),), use("plus", use("fib", X), use("fib", ("s", X)))),
        ))
        self.assertEqual(self.told((PLUS, fib), ("fib", (chain(7, ZERO),))), ("value", chain(13, ZERO)))
        found = instances((SIG, (PLUS, fib)), ("fib", (chain(7, ZERO),)))
        self.assertEqual(len({told for told, case, value in found}), len(found))
        # A tree of inner uses of which just a few are unlike.
        body = X
        for _ in range(5):
            body = use("plus", body, body)
        top = one_case("top", ("count",), "count", (X,), body)
        self.assertEqual(self.told((PLUS, top), ("top", (ZERO,))), ("value", ZERO))
        self.assertEqual(len(instances((SIG, (PLUS, top)), ("top", (ZERO,)))), 2)

    def test_values_of_400_parts_and_401(self):
        for body, extra in ((X, 0), (("n", X), 1), (("b", X, LEAF), 2), (("b", X, X), None)):
            top = one_case("top", ("tree",), "tree", (X,), body)
            for size in (199, 200, 398, 399, 400, 401):
                asked = ("top", (of_size(size),))
                self.assertEqual(size_of(asked[1][0]), size)
                greatness = 2 * size + 1 if extra is None else size + extra
                answer = self.told((top,), asked, WOOD)
                self.assertEqual(answer[0], "value" if greatness <= 400 else "great", (body, size))

    def test_values_40_deep_and_41(self):
        top = one_case("top", ("tree",), "tree", (X,), ("n", X))
        self.assertEqual(self.told((top,), ("top", (nest(39),)), WOOD), ("value", nest(40)))
        self.assertEqual(self.told((top,), ("top", (nest(40),)), WOOD), GREAT)
        wide = one_case("wide", ("tree",), "tree", (X,), ("t", LEAF, X, ("n", LEAF)))
        self.assertEqual(self.told((wide,), ("wide", (nest(39),)), WOOD), ("value", ("t", LEAF, nest(39), nest(2))))
        self.assertEqual(self.told((wide,), ("wide", (nest(40),)), WOOD), GREAT)
        # A stranger is one deep.
        rows = one_case("rows", ("type",), "type", (X,), ("ptr", X))
        term = ("#", "type", 5)
        for depth in range(2, 42):
            term = ("ptr", term)
            self.assertEqual(self.told((rows,), ("rows", (term[1],)))[0], "value" if depth <= 40 else "great")

    def test_arguments_that_are_too_great(self):
        small = one_case("small", ("tree",), "tree", (X,), LEAF)
        top = one_case("top", ("tree",), "tree", (X,), use("small", X))
        more = one_case("more", ("tree",), "tree", (X,), use("small", ("n", X)))
        for term, is_right in ((of_size(400), True), (of_size(401), False), (nest(40), True), (nest(41), False)):
            self.assertEqual(self.told((small, top), ("top", (term,)), WOOD), ("value", LEAF) if is_right else GREAT)
            # The use's own arguments may be too great.
            self.assertEqual(self.told((small,), ("small", (term,)), WOOD), ("value", LEAF))
        for term, is_right in ((of_size(399), True), (of_size(400), False), (nest(39), True), (nest(40), False)):
            self.assertEqual(self.told((small, more), ("more", (term,)), WOOD), ("value", LEAF) if is_right else GREAT)

    def test_arguments_are_too_great_ahead_of_all_else(self):
        # Though it is being run, or has been run: the arguments of the use itself are not looked at.
        again = one_case("again", ("tree",), "tree", (X,), use("again", X))
        self.assertEqual(self.told((again,), ("again", (nest(40),)), WOOD), ("round", ("again", (nest(40),))))
        self.assertEqual(self.told((again,), ("again", (nest(41),)), WOOD), GREAT)
        none = ("none", ("tree",), "tree", ())
        top = one_case("top", ("tree",), "tree", (X,), use("none", X))
        self.assertEqual(self.told((none, top), ("top", (nest(41),)), WOOD), GREAT)
        self.assertEqual(self.told((none, top), ("top", (nest(40),)), WOOD), ("none", ("none", (nest(40),))))

    def test_a_value_within_may_be_too_great(self):
        double = one_case("double", ("tree",), "tree", (X,), ("b", X, X))
        drop = one_case("drop", ("tree",), "tree", (X,), LEAF)
        top = one_case("top", ("tree",), "tree", (X,), use("drop", use("double", X)))
        self.assertEqual(self.told((double, drop, top), ("top", (of_size(199),)), WOOD), ("value", LEAF))
        self.assertEqual(self.told((double, drop, top), ("top", (of_size(200),)), WOOD), GREAT)
        # What stands in a body for a while is not looked at, if it is no argument and no value.
        keep = one_case("keep", ("tree", "tree"), "tree", (X, ("b", Y, Z)), X)
        wide = one_case("wide", ("tree",), "tree", (X,), use("keep", X, ("b", X, X)))
        self.assertEqual(self.told((keep, wide), ("wide", (of_size(199),)), WOOD), ("value", of_size(199)))
        self.assertEqual(self.told((keep, wide), ("wide", (of_size(200),)), WOOD), GREAT)

    def many_uses(self, many):
        """Definitions and a use that runs so many uses one within another, each argument being small."""
        # A count of two figures: 30 of the first one to one of the second.
        down = ("down", ("count", "count"), "count", (
            ((ZERO, ZERO), ZERO), ((S, Y), use("down", X, Y)), ((ZERO, ("s", Y)), use("down", chain(29, ZERO), Y)),
        ))
        return (down,), ("down", (chain((many - 1) % 30, ZERO), chain((many - 1) // 30, ZERO)))

    def test_150_uses_one_within_another(self):
        for many in (1, 2, 31, 100, 149, 150):
            definitions, asked = self.many_uses(many)
            self.assertEqual(self.told(definitions, asked), ("value", ZERO))
            self.assertEqual(len(instances((SIG, definitions), asked)), many)
        for many in (151, 152, 400):
            definitions, asked = self.many_uses(many)
            self.assertEqual(self.told(definitions, asked), GREAT)
            self.assertIsNone(instances((SIG, definitions), asked))

    def test_150_uses_one_behind_another(self):
        # None is run within all others here: each use of plus ends ahead of the next one of each.
        each = ("each", ("count", "count"), "count", (
            ((ZERO, Y), ZERO), ((S, Y), use("plus", use("plus", chain(20, ZERO), X), use("each", X, Y))),
        ))
        top = one_case("top", ("count", "count"), "count", (X, Y), use("plus", use("each", X, Y), use("plus", Y, ZERO)))
        answers = set()
        for first in range(1, 8):
            for second in range(0, 12):
                asked = ("top", (chain(first, ZERO), chain(second, ZERO)))
                answers.add(self.told((PLUS, each, top), asked)[0])
        self.assertEqual(answers, {"value", "great"})

    def test_150_uses_and_what_has_been_run(self):
        # Down to 149 uses; the top one makes 150; then one that has been run, one that is being run, or a new one.
        definitions, asked = self.many_uses(149)
        other = one_case("other", ("count",), "count", (X,), X)
        none = ("none", ("count",), "count", ())
        args = [asked[1][0], asked[1][1]]
        for then, answer in (
            (use("down", ZERO, ZERO), ("value", ZERO)),
            (use("down", *args), ("value", ZERO)),
            (use("top", ZERO), ("round", ("top", (ZERO,)))),
            (use("other", ZERO), GREAT),
            (use("none", ZERO), GREAT),
        ):
            top = one_case("top", ("count",), "count", (X,), use("plus", use("down", *args), then))
            got = self.told((PLUS, *definitions, other, none, top), ("top", (ZERO,)))
            # plus itself would be one more.
            self.assertEqual(got, GREAT if answer[0] == "value" else answer)
            top = one_case("top", ("count",), "count", (("s", X),), use("down", use("down", *args), then))
            if answer[0] == "value":
                self.assertEqual(self.told((*definitions, top), ("top", (chain(1, ZERO),))), answer)
        definitions, asked = self.many_uses(148)
        top = one_case("top", ("count",), "count", (X,), use("down", use("down", asked[1][0], asked[1][1]), use("none", X)))
        self.assertEqual(self.told((*definitions, none, top), ("top", (ZERO,))), ("none", ("none", (ZERO,))))
        top = one_case("top", ("count",), "count", (X,), use("down", use("down", asked[1][0], asked[1][1]), use("other", X)))
        self.assertEqual(self.told((*definitions, other, top), ("top", (ZERO,))), ("value", ZERO))

    def test_many_arguments_within_one_another(self):
        body = X
        for _ in range(70):
            body = use("up", body)
        up = one_case("up", ("count",), "count", (X,), X)
        top = one_case("top", ("count",), "count", (X,), body)
        self.assertEqual(self.told((up, top), ("top", (TWO,))), ("value", TWO))

    def test_deep_uses(self):
        # Deeper than what is told to be bounded: no plain calls of Python one within another.
        first = one_case("first", ("count",), "count", (X,), ZERO)
        self.assertEqual(run((SIG, (first,)), ("first", (chain(390, ZERO),))), ("value", ZERO))
        same = ("same", ("count", "count"), "truth", (((X, Y), NO), ((X, X), YES)))
        self.assertEqual(run((SIG, (same,)), ("same", (chain(390, ZERO), chain(390, ZERO)))), ("value", YES))
        self.assertEqual(run((SIG, (same,)), ("same", (chain(390, ZERO), chain(389, ZERO)))), ("value", NO))

    def test_each_stands_behind_those_that_its_body_uses(self):
        found = instances((SIG, (PLUS, TIMES)), ("times", (chain(3, ZERO), TWO)))
        stand = {told: at for at, (told, case, value) in enumerate(found)}
        for (name, args), case, value in found:
            if name == "times" and case == 1:
                self.assertLess(stand[("times", (args[0][1], args[1]))], stand[(name, args)])
            if name == "plus" and case == 1:
                self.assertLess(stand[("plus", (args[0][1], args[1]))], stand[(name, args)])
        self.assertEqual(found[-1][0], ("times", (chain(3, ZERO), TWO)))

    def test_random_tables_against_the_plain_way(self):
        rng = random.Random(17)
        uses = {("count",): rows_up_to(SIG, ("count",), 3), ("count", "type"): rows_up_to(SIG, ("count", "type"), 2, (), (1,))}
        answers = {}
        for _ in range(250):
            heads = [(f"f{at}", rng.choice(list(uses)), rng.choice(("count", "type"))) for at in range(3)]
            table = (SIG, tuple((*head, self.random_cases(rng, heads, head)) for head in heads))
            self.assertIs(is_table(table), True)
            for name, params, result in heads:
                for args in uses[params]:
                    answer, found = plain_run(table, (name, args))
                    self.assertEqual(run(table, (name, args)), answer, (table, name, args))
                    self.assertEqual(instances(table, (name, args)), found, (table, name, args))
                    answers[answer[0]] = answers.get(answer[0], 0) + 1
        for word in ("value", "none", "two", "round", "great"):
            self.assertGreater(answers[word], 20, answers)

    def random_cases(self, rng, heads, head):
        name, params, result = head
        firsts = [X, ZERO, S, ("s", ZERO), ("s", S)]
        seconds = [Y, INT, ("ptr", Y)]
        rows = [(first,) for first in firsts] if len(params) == 1 else [(a, b) for a in firsts for b in seconds]
        cases = []
        for row in rng.sample(rows, rng.randint(2, 4)):
            count = [X] if "x" in str(row[0]) else []
            kinds = {"count": count, "type": [Y] if len(row) == 2 and row[1] != INT else []}
            cases.append((row, self.random_body(rng, heads, kinds, result, 3)))
        return tuple(cases)

    def random_body(self, rng, heads, variables, kind, depth):
        plain = variables[kind] + ([ZERO] if kind == "count" else [INT])
        if depth == 0 or rng.random() < 0.2:
            return rng.choice(plain)
        choices = [("s" if kind == "count" else "ptr", (kind,), False)]
        choices += [(name, params, True) for name, params, result in heads if result == kind] * 2
        name, needs, is_use = rng.choice(choices)
        parts = [self.random_body(rng, heads, variables, need, depth - 1) for need in needs]
        return ("!", name, *parts) if is_use else (name, *parts)


if __name__ == "__main__":
    unittest.main()
