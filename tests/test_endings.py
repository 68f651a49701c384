"""Groups, carried parameters, formed tables, rounds and roads: [22] to [26]."""

import random
import unittest

from instances.endings import carried, groups, is_formed, is_round, loop, roads
from instances.errors import Unformed, Unsound
from instances.tables import fault, is_table
from programs import (
    BOTH, EVEN, EVER, FULL, GROW, ODD, ONE, PLUS, S, SAME, SWAP, TABLE, TIMES, TWO, Hands, are_plain_roads, parts_of,
    plain_groups, plain_is_round, plain_looked_at, some_round, table_of,
)
from samples import INT, NO, X, Y, Z, ZERO, chain, odd_values, plain_named, terms_up_to

W = ("?", "w")
COUNTS = ("count", "count")
# One closed kind of four makers without arguments, and one of two: zero and one more.
FOUR = ((("t", "closed"),), (("a", (), "t"), ("b", (), "t"), ("c", (), "t"), ("d", (), "t")))
NUMBERS = ((("n", "closed"), ("o", "open")), (("z", (), "n"), ("s", ("n",), "n"), ("i", (), "o"), ("p", ("o",), "o")))
A, B, C, D = ("a",), ("b",), ("c",), ("d",)


def use(name, *args):
    return ("!", name, *args)


def ring(many, rows, order=(1, 2, 3, 0)):
    """Definitions in a ring with these cases each: pairs of patterns and whether the next one is used there.

    The last one uses the first one with the arguments in another order."""
    found = []
    for at in range(many):
        cases = []
        for row, goes_on in rows:
            args = [row[spot] for spot in order] if at == many - 1 else row
            cases.append((row, use(f"f{(at + 1) % many}", *args) if goes_on else row[0]))
        found.append((f"f{at}", ("t",) * 4, "t", tuple(cases)))
    return (FOUR, tuple(found))


def size_of_roads(trees):
    """How many cases the road trees tell of, and how many steps the longest road has."""
    many, longest = 0, 0
    waiting = [(tree, 1) for tree in trees]
    while waiting:
        tree, depth = waiting.pop()
        longest = max(longest, depth)
        for told in tree:
            many += 1
            if told[0] == "open":
                waiting += [(below, depth + 1) for place, below in told[1]]
    return many, longest


class GroupsTest(unittest.TestCase):
    def told(self, *definitions):
        table = table_of(*definitions)
        self.assertIs(is_table(table), True)
        found = groups(table)
        self.assertEqual(found, plain_groups(table))
        return found

    def one(self, name, *names):
        """A definition that uses these."""
        body = X
        for other in names:
            body = use(other, body)
        return (name, ("count",), "count", (((X,), body),))

    def test_alone_and_in_a_ring(self):
        self.assertEqual(self.told(), ())
        self.assertEqual(self.told(PLUS), (("plus",),))
        self.assertEqual(self.told(SAME, PLUS), (("same",), ("plus",)))
        self.assertEqual(self.told(PLUS, TIMES, EVEN, ODD), (("plus",), ("times",), ("even", "odd")))
        self.assertEqual(self.told(EVEN, PLUS, ODD), (("even", "odd"), ("plus",)))
        self.assertEqual(self.told(ODD, PLUS, EVEN), (("odd", "even"), ("plus",)))

    def test_several_steps(self):
        self.assertEqual(self.told(self.one("a", "b"), self.one("b", "c"), self.one("c", "a")), (("a", "b", "c"),))
        self.assertEqual(self.told(self.one("a", "b"), self.one("b", "c"), self.one("c")), (("a",), ("b",), ("c",)))
        self.assertEqual(
            self.told(self.one("a", "b"), self.one("b", "c"), self.one("c", "b", "d"), self.one("d", "d")),
            (("a",), ("b", "c"), ("d",)),
        )
        # Two rings that share a definition are one group.
        self.assertEqual(
            self.told(self.one("e"), self.one("a", "b"), self.one("b", "a", "c"), self.one("d", "e"), self.one("c", "b")),
            (("e",), ("a", "b", "c"), ("d",)),
        )
        names = [f"f{at}" for at in range(12)]
        self.assertEqual(self.told(*[self.one(name, names[(at + 5) % 12]) for at, name in enumerate(names)]), (tuple(names),))

    def test_uses_within_arguments_and_in_any_case(self):
        deep = ("deep", ("count",), "count", (((ZERO,), ZERO), ((S,), ("s", use("plus", ZERO, use("back", X))))))
        back = ("back", ("count",), "count", (((X,), use("deep", X)),))
        self.assertEqual(self.told(PLUS, back, deep), (("plus",), ("back", "deep")))

    def test_random_tables(self):
        rng = random.Random(22)
        names = [f"f{at}" for at in range(7)]
        for _ in range(200):
            self.told(*[self.one(name, *rng.choices(names, k=rng.choice((0, 1, 1, 2)))) for name in names])


class CarriedTest(unittest.TestCase):
    def told(self, params, *rows):
        table = table_of(("f", params, "truth", tuple((row, NO) for row in rows)))
        self.assertIs(is_table(table), True)
        found = carried(table, "f")
        self.assertIsInstance(found, tuple)
        self.assertEqual(found, tuple(at for at in range(len(params)) if at not in plain_looked_at(table)["f"]))
        return found

    def test_the_documents(self):
        self.assertEqual(carried(FULL, "plus"), (1,))
        self.assertEqual(carried(FULL, "even"), ())
        self.assertEqual(carried(TABLE, "same"), ())

    def test_carried_parameters(self):
        self.assertEqual(self.told(("count",), (X,)), (0,))
        self.assertEqual(self.told(("count",) * 4, (X, Y, Z, W)), (0, 1, 2, 3))
        self.assertEqual(self.told(("count",) * 4, (X, Y, Z, W), (W, ZERO, Y, X)), (0, 2, 3))
        self.assertEqual(self.told(("count",) * 4, (X, Y, Z, W), (W, ZERO, Y, X), (X, Y, Z, ONE)), (0, 2))
        # No case asks for anything.
        self.assertEqual(self.told(COUNTS), (0, 1))

    def test_a_variable_that_stands_twice_is_looked_at(self):
        self.assertEqual(self.told(("count",) * 3, (X, Y, X)), (1,))
        self.assertEqual(self.told(("count",) * 3, (X, Y, S)), (1,))
        self.assertEqual(self.told(("count",) * 3, (S, Y, X)), (1,))
        self.assertEqual(self.told(("count",) * 3, (X, X, X)), ())
        # A variable of another case says nothing.
        self.assertEqual(self.told(COUNTS, (X, Y), (S, Y)), (1,))


class FormedTest(unittest.TestCase):
    def formed(self, table):
        self.assertIs(is_table(table), True)
        found = is_formed(table)
        self.assertIs(found, Hands(table).is_formed())
        return found

    def case(self, row, *args):
        """Whether a definition of as many counts, all looked at, may use itself so in this case."""
        params = ("count",) * len(row)
        definition = ("f", params, "count", ((row, use("f", *args)), ((ZERO,) * len(row), ZERO)))
        return self.formed(table_of(PLUS, definition))

    def test_the_documents(self):
        self.assertTrue(self.formed(FULL))
        self.assertTrue(self.formed(table_of(SWAP)))
        self.assertFalse(self.formed(table_of(GROW)))
        self.assertTrue(self.formed(table_of()))

    def test_parts_as_they_stand(self):
        two = ("s", S)
        for arg in (two, S, X):
            self.assertTrue(self.case((two,), arg))
        for arg in (("s", two), ZERO, ONE, use("plus", X, X), use("f", X), ("s", ZERO)):
            self.assertFalse(self.case((two,), arg))
        self.assertTrue(self.case((chain(3, ZERO),), TWO))
        self.assertTrue(self.case((chain(3, ZERO),), ZERO))

    def test_each_of_a_parameter_of_its_own(self):
        two = ("s", S)
        self.assertTrue(self.case((two, Y), Y, X))
        self.assertTrue(self.case((two, ("s", Y)), Y, S))
        self.assertFalse(self.case((two, Y), X, X))
        self.assertFalse(self.case((two, Y), X, S))
        self.assertFalse(self.case((two, Y), Y, Y))
        # A part that stands at several parameters may be of each.
        self.assertTrue(self.case((S, X), X, S))
        self.assertTrue(self.case((S, X), X, X))
        self.assertFalse(self.case((S, X), S, S))
        self.assertTrue(self.case((S, ("s", Y), X), X, Y, X))
        self.assertFalse(self.case((S, ("s", Y), X), X, X, X))
        # Only some choices do: the first argument must leave the first parameter to the second one.
        self.assertTrue(self.case((two, S, Y), X, S, Y))
        self.assertTrue(self.case((two, S, Y), X, two, Y))
        self.assertTrue(self.case((two, S, Y), Y, X, two))
        self.assertFalse(self.case((two, S, Y), two, S, S))
        self.assertTrue(self.case((("s", two), S, two, W), S, W, X, ("s", two)))

    def test_carried_arguments_are_any(self):
        for arg in (ZERO, S, ("s", S), use("plus", X, Y), use("f", X, use("f", X, Y)), chain(9, Y)):
            table = table_of(PLUS, ("f", COUNTS, "count", (((ZERO, Y), Y), ((S, Y), use("f", X, arg)))))
            self.assertTrue(self.formed(table), arg)
        self.assertFalse(self.formed(table_of(PLUS, ("f", COUNTS, "count", (((ZERO, Y), Y), ((S, Y), use("f", Y, X)))))))
        # An inner use within a carried argument is looked at, too.
        bad = use("f", X, use("f", S, use("f", ("s", S), Y)))
        self.assertFalse(self.formed(table_of(("f", COUNTS, "count", (((ZERO, Y), Y), ((S, Y), bad))))))

    def test_what_does_not_stay_hands_on_anything(self):
        top = ("top", COUNTS, "count", (((ZERO, ZERO), ZERO), ((S, Y), use("plus", chain(3, X), use("plus", Y, Y)))))
        self.assertTrue(self.formed(table_of(PLUS, top)))
        # It stays if the other one uses it as well.
        back = ("plus", COUNTS, "count", (((ZERO, Y), Y), ((S, Y), use("top", X, Y))))
        self.assertFalse(self.formed(table_of(back, top)))

    def test_fewer_and_more_looked_at_parameters(self):
        few = ("few", ("count",), "count", (((ZERO,), ZERO), ((S,), use("many", X, X))))
        many = ("many", COUNTS, "count", (((ZERO, ZERO), ZERO), ((S, Y), use("few", X))))
        self.assertFalse(self.formed(table_of(few, many)))
        few = ("few", ("count",), "count", (((ZERO,), ZERO), ((S,), use("many", X, chain(5, X)))))
        many = ("many", COUNTS, "count", (((ZERO, Y), ZERO), ((S, Y), use("few", X))))
        self.assertTrue(self.formed(table_of(few, many)))

    def test_a_dead_case_is_asked_as_well(self):
        rows = (((ZERO,), ZERO), ((S,), X), ((X,), use("f", ("s", X))))
        self.assertFalse(self.formed(table_of(("f", ("count",), "count", rows))))

    def test_errors_tell_the_first_definition(self):
        bad = ("f", ("count",), "count", (((ZERO,), ZERO), ((S,), use("f", S))))
        worse = ("g", ("count",), "count", (((ZERO,), ZERO), ((S,), use("g", ("s", S)))))
        for call in (loop, roads):
            for definitions, name in (
                ((GROW,), "grow"), ((PLUS, GROW, worse), "grow"), ((worse, GROW), "g"), ((bad, worse, BOTH), "g"),
                ((BOTH, worse), "g"), ((BOTH, bad, GROW), "grow"),
            ):
                with self.assertRaises(Unformed) as raised:
                    call(table_of(*definitions))
                self.assertEqual(raised.exception.given, name)
            none = ("none", ("count",), "count", ((((ZERO,), ZERO)),))
            for definitions, name in (((BOTH,), "both"), ((PLUS, none, BOTH), "none"), ((bad, BOTH, none), "both"),
                                      ((("f", ("count",), "count", ()),), "f")):
                with self.assertRaises(Unsound) as raised:
                    call(table_of(*definitions))
                self.assertEqual(raised.exception.given, name)

    def test_a_group_is_named_by_the_body_in_which_the_use_stands(self):
        one = ("one", ("count",), "count", (((ZERO,), ZERO), ((S,), use("two", X))))
        two = ("two", ("count",), "count", (((ZERO,), ZERO), ((S,), use("one", ("s", S)))))
        for definitions in ((one, two), (two, one)):
            with self.assertRaises(Unformed) as raised:
                loop(table_of(*definitions))
            self.assertEqual(raised.exception.given, "two")


class RoundsTest(unittest.TestCase):
    def told(self, table):
        """The round or None, which agrees with the roads."""
        self.assertIs(is_table(table), True)
        found = loop(table)
        trees = roads(table)
        self.assertNotEqual(found is None, trees is None)
        if found is not None:
            self.assertIs(is_round(table, found), True)
            self.assertTrue(plain_is_round(table, *found), (table, found))
        return found

    def test_the_documents(self):
        self.assertIsNone(self.told(FULL))
        self.assertIsNotNone(self.told(table_of(SWAP)))
        self.assertIs(is_round(table_of(SWAP), (("swap", (ONE, ONE)), ((1, 0),))), True)
        self.assertIs(is_round(table_of(SWAP), (("swap", (ONE, ZERO)), ((1, 0),))), False)

    def test_all_parameters_carried(self):
        self.assertEqual(self.told(table_of(EVER))[1], ((0, 0),))
        first = ("first", COUNTS, "count", (((X, Y), use("second", ("s", X), use("first", Y, Y), ZERO)),))
        second = ("second", ("count",) * 3, "count", (((X, Y, Z), use("first", use("plus", X, Z), ZERO)),))
        found = self.told(table_of(PLUS, first, second))
        self.assertIn(found[1], (((0, 0), (0, 0)), ((0, 1),)))
        self.assertIsNone(self.told(table_of(("f", ("count",), "count", (((X,), use("g", X)),)), ("g", ("count",), "count", (((X,), X),)))))

    def test_rounds_of_any_length_and_start(self):
        table = table_of(SWAP)
        for args, case in (((ONE, ONE), 1), ((TWO, ONE), 1), ((ONE, TWO), 1)):
            for many in range(1, 9):
                value = (("swap", args), ((1, 0),) * many)
                right = args[0] == args[1] or many % 2 == 0
                self.assertIs(is_round(table, value), right, value)
                self.assertIs(plain_is_round(table, *value), right)
        self.assertIs(is_round(table, (("swap", (ONE, ONE)), ((1, 0),) * 1000)), True)

    def test_whatever_the_value_is(self):
        table = table_of(SWAP)
        good = (("swap", (ONE, ONE)), ((1, 0),))
        self.assertIs(is_round(table, good), True)
        for value in odd_values() + [
            good[0], (good[0],), (*good, ()), list(good), (good[0], ()), (good[0], [(1, 0)]), (good[0], ([1, 0],)),
            (good[0], ((1, 0, 0),)), (good[0], ((1,),)), (good[0], ((True, 0),)), (good[0], ((1, False),)),
            (good[0], ((1, 1),)), (good[0], ((1, -1),)), (good[0], ((0, 0),)), (good[0], ((2, 0),)), (good[0], ((3, 0),)),
            (good[0], ((-1, 0),)), (("swap", (ONE,)), good[1]), (("swop", (ONE, ONE)), good[1]), (good[0], (1, 0)),
            (["swap", (ONE, ONE)], good[1]), (("swap", [ONE, ONE]), good[1]), (("swap", (ONE, X)), good[1]),
            (good[0], ((1, 0), None)), (good[0], ((1, 0), (1, True))), (good[0], ((1, 10 ** 30),)),
        ]:
            self.assertIs(is_round(table, value), False, value)
        for value in odd_values():
            self.assertIs(is_round(table, (value, ((1, 0),))), False)
            self.assertIs(is_round(table, (good[0], value)), False)
            self.assertIs(is_round(table, (good[0], (value,))), False)
            if not isinstance(value, int) or value != 1:
                self.assertIs(is_round(table, (good[0], ((value, 0),))), False)
            if not isinstance(value, int) or isinstance(value, bool) or value != 0:
                self.assertIs(is_round(table, (good[0], ((1, value),))), False)

    def test_rounds_of_tables_that_are_not_sound_or_not_formed(self):
        rows = (((S, Y), use("f", Y, S)), ((ZERO, ZERO), ZERO), ((TWO, TWO), use("f", ("s", TWO), ZERO)))
        table = table_of(("f", COUNTS, "count", rows), BOTH)
        self.assertFalse(is_formed(table))
        self.assertIsNotNone(fault(table, "f"))
        self.assertIs(is_round(table, (("f", (ONE, ONE)), ((0, 0),))), True)
        self.assertIs(is_round(table, (("f", (ONE, TWO)), ((0, 0), (0, 0)))), True)
        self.assertIs(is_round(table, (("f", (ONE, TWO)), ((0, 0),))), False)
        # Another case is chosen, or none on the way.
        self.assertIs(is_round(table, (("f", (TWO, TWO)), ((0, 0),))), False)
        self.assertIs(is_round(table, (("f", (ONE, ZERO)), ((0, 0), (0, 0)))), False)

    def test_places_count_all_inner_uses_from_the_left(self):
        # f stands at the places 1 and 3; the one at 1 falls; an inner use stands ahead of those in its arguments.
        body = use("plus", use("f", X), use("plus", use("f", S), use("plus", X, X)))
        table = table_of(PLUS, ("f", ("count",), "count", (((ZERO,), ZERO), ((S,), body))))
        self.assertEqual(self.told(table)[1], ((1, 3),))
        for place in range(-1, 7):
            self.assertIs(is_round(table, (("f", (ONE,)), ((1, place),))), place == 3)
        body = use("f", X, use("f", X, use("plus", use("f", S, Y), Y)))
        table = table_of(PLUS, ("f", COUNTS, "count", (((ZERO, Y), ZERO), ((S, Y), body))))
        self.assertEqual(self.told(table)[1], ((1, 3),))

    def test_places_within_makers_of_several_arguments(self):
        body = ("b", use("f", X), ("b", ("b", use("f", S), use("f", X)), use("f", X)))
        wood = ((("t", "closed"),), (("z", (), "t"), ("s", ("t",), "t"), ("b", ("t", "t"), "t")))
        rows = (((ZERO,), ZERO), ((S,), body), ((("b", X, Y),), ZERO))
        table = table_of(("f", ("t",), "t", rows), signature=wood)
        self.assertEqual(self.told(table)[1], ((1, 1),))
        for place in range(5):
            self.assertIs(is_round(table, (("f", (ONE,)), ((1, place),))), place == 1)

    def test_level_uses_hand_on_all_looked_at_parameters(self):
        # Not formed: from one looked-at parameter to two and back.
        less = ("less", ("count",), "count", (((ZERO,), ZERO), ((S,), use("more", S, S))))
        more = ("more", COUNTS, "count", (((ZERO, ZERO), ZERO), ((S, Y), use("less", S)), ((S, ("s", Y)), use("more", ("s", Y), S))))
        table = table_of(less, more)
        self.assertFalse(is_formed(table))
        for value, is_right in (
            ((("less", (ONE,)), ((1, 0), (1, 0))), False), ((("more", (ONE, ZERO)), ((1, 0), (1, 0))), False),
            ((("more", (ONE, ZERO)), ((1, 0),)), False), ((("less", (ONE,)), ((1, 0),)), False), ((("more", (ONE, ONE)), ((2, 0),)), True),
            ((("more", (ONE, TWO)), ((2, 0), (2, 0))), True),
        ):
            self.assertIs(is_round(table, value), is_right, value)
            self.assertIs(plain_is_round(table, *value), is_right, value)

    def test_carried_arguments_of_any_kind(self):
        # A closed term of p needs one of q, which needs one of r; none of them comes first.
        kinds = (("p", "closed"), ("q", "closed"), ("r", "closed"), ("o", "open"))
        makers = (("m", ("q", "q"), "p"), ("mm", ("p",), "p"), ("n", ("r",), "q"), ("k", ("o", "r"), "r"), ("l", (), "r"))
        rows = (((X, Y, Z, W), use("f", X, Y, Z, W)),)
        (name, args), steps = self.told(table_of(("f", ("p", "q", "r", "o"), "p", rows), signature=(kinds, makers)))
        self.assertEqual((name, steps), ("f", ((0, 0),)))
        table = table_of(("f", ("p",), "p", (((X,), use("f", X)),)), signature=(kinds[:3], (*makers[:3], makers[4])))
        self.assertEqual(self.told(table)[0][0], "f")

    def test_inner_uses_of_other_groups_are_no_steps(self):
        table = table_of(EVER, ("f", ("count",), "count", (((ZERO,), ZERO), ((S,), use("ever", S)))))
        self.assertEqual(self.told(table)[0][0], "ever")
        self.assertIs(is_round(table, (("f", (ONE,)), ((1, 0), (0, 0)))), False)

    def test_carried_arguments_that_come_need_not_be_known(self):
        rows = (((ZERO, Y), Y), ((S, Y), use("f", S, use("f", X, ("s", Y)))))
        table = table_of(("f", COUNTS, "count", rows))
        self.assertEqual(self.told(table)[1], ((1, 0),))
        self.assertIs(is_round(table, (("f", (ONE, chain(9, ZERO))), ((1, 0),))), True)
        self.assertIs(is_round(table, (("f", (ONE, ZERO)), ((1, 1),))), False)

    def test_roads_that_come_round_but_are_closed(self):
        # What goes on would come round at x, x alone, which another case has.
        rows = (((X, Y), use("f", Y, X)), ((X, X), ZERO))
        self.assertIsNotNone(self.told(table_of(("f", COUNTS, "count", rows))))
        rows = (((ZERO, Y), use("f", Y, ZERO)), ((S, Y), Y), ((ZERO, ZERO), ZERO))
        self.assertIsNone(self.told(table_of(("f", COUNTS, "count", rows))))
        rows = (((ZERO, Y), use("f", Y, ZERO)), ((S, Y), Y), ((TWO, TWO), ZERO))
        self.assertEqual(self.told(table_of(("f", COUNTS, "count", rows)))[0], ("f", (ZERO, ZERO)))

    def test_a_dead_case_makes_no_round(self):
        rows = (((X,), use("f", X)), ((ZERO,), ZERO), ((S,), ZERO))
        self.assertIsNone(self.told(table_of(("f", ("count",), "count", rows))))
        self.assertEqual(self.told(table_of(("f", ("count",), "count", rows[:2])))[1], ((0, 0),))

    def test_long_rounds(self):
        rows = (((X, Y, Z, W), True), ((A, A, A, A), False))
        for many in (1, 2, 12):
            found = self.told(ring(many, rows))
            self.assertLessEqual(len(found[1]), 4 * many)
            self.assertEqual(len(found[1]) % many, 0)
        # Twelve definitions in a ring, four turns of it.
        table = ring(12, rows)
        for args, turns in (((A, B, C, D), 4), ((A, B, A, B), 2), ((B, B, B, B), 1)):
            for many in range(1, 5):
                value = (("f0", args), ((0, 0),) * (12 * many))
                self.assertIs(is_round(table, value), many % turns == 0)

    def test_open_kinds(self):
        rows = (((X, Y), use("f", Y, X)), ((X, X), INT), ((INT, Y), INT), ((X, INT), INT), ((INT, INT), INT))
        table = table_of(("f", ("type", "type"), "type", rows))
        (name, args), steps = self.told(table)
        self.assertEqual(len(steps), 2)
        self.assertNotEqual(args[0], args[1])
        self.assertNotIn(INT, args)

    def test_falling_uses_make_no_round(self):
        fall = (((ZERO, ZERO), ZERO), ((S, Y), use("f", Y, X)), ((ZERO, S), use("f", X, ZERO)))
        self.assertIsNone(self.told(table_of(("f", COUNTS, "count", fall))))
        # All parameters as they stand, but one less.
        less = ("less", ("count",), "count", (((ZERO,), ZERO), ((S,), use("more", S, X))))
        more = ("more", COUNTS, "count", (((ZERO, Y), ZERO), ((S, Y), use("less", S))))
        self.assertIsNotNone(self.told(table_of(less, more)))
        more = ("more", COUNTS, "count", (((ZERO, ZERO), ZERO), ((S, Y), use("less", S)), ((ZERO, S), ZERO)))
        self.assertIsNone(self.told(table_of(("less", ("count",), "count", (((ZERO,), ZERO), ((S,), use("plus", S, X)))), more, PLUS)))


class RoadsTest(unittest.TestCase):
    def told(self, table):
        """The roads, which are what is worked out plainly."""
        found = roads(table)
        self.assertIsNotNone(found)
        self.assertTrue(are_plain_roads(table, found), (table, found))
        return found

    def test_the_documents(self):
        flat = (("open", ()), ("open", ()))
        self.assertEqual(self.told(FULL), (flat, flat, flat, flat))
        self.assertIsNone(roads(table_of(SWAP)))
        self.assertEqual(self.told(table_of()), ())

    def test_all_words(self):
        rows = (((ZERO, Y), use("f", Y, ZERO)), ((S, Y), Y), ((ZERO, ZERO), ZERO))
        tree = self.told(table_of(("f", COUNTS, "count", rows)))[0]
        self.assertEqual(tree[1:], (("open", ()), ("open", ())))
        [(place, below)] = tree[0][1]
        self.assertEqual(place, 0)
        # The second argument, which is not zero, stands first now.
        self.assertEqual([told[0] for told in below], ["closed", "open", "closed"])
        self.assertEqual(below[0], ("closed", ("leaf", 0)))
        rows = (((ZERO, Y), use("f", Y, ZERO)), ((S, Y), Y), ((ZERO, ZERO), ZERO), ((ONE, ONE), ZERO))
        tree = self.told(table_of(("f", COUNTS, "count", rows)))[0]
        self.assertEqual([told[0] for told in tree[0][1][0][1]], ["closed", "open", "closed", "no"])

    def test_dead_cases_are_closed_at_once(self):
        rows = (((X,), use("f", X)), ((ZERO,), ZERO), ((S,), ZERO))
        [tree] = self.told(table_of(("f", ("count",), "count", rows)))
        self.assertEqual(tree, (("closed", ("split", "v1", (("leaf", 0), ("leaf", 1)))), ("open", ()), ("open", ())))

    def test_several_places_ascending(self):
        body = use("plus", use("g", S), use("plus", use("f", X), use("g", S)))
        first = ("f", ("count",), "count", (((ZERO,), ZERO), ((S,), body)))
        second = ("g", ("count",), "count", (((ZERO,), ZERO), ((S,), use("f", X))))
        one, two = self.told(table_of(PLUS, first, second))[1:]
        self.assertEqual([place for place, below in one[1][1]], [1, 4])
        self.assertEqual(two, (("open", ()), ("open", ())))

    def test_without_looked_at_parameters(self):
        first = ("f", COUNTS, "count", (((X, Y), use("g", X)),))
        second = ("g", ("count",), "count", (((X,), ("s", X)),))
        self.assertEqual(self.told(table_of(first, second)), ((("open", ()),), (("open", ()),)))

    def test_rows_are_kept_in_the_order_in_which_they_came(self):
        rows = (
            ((X, Y, Z), use("f", Y, Z, X)), ((ZERO, Y, Z), ZERO), ((X, ("s", Y), Z), ZERO), ((ZERO, ("s", Y), Z), ZERO),
            ((X, Y, ZERO), ZERO), ((ZERO, Y, ZERO), ZERO), ((X, ("s", Y), ZERO), ZERO), ((ZERO, ("s", Y), ZERO), ZERO),
        )
        self.told(table_of(("f", ("count",) * 3, "count", rows)))

    def test_long_roads(self):
        stops = [((B, X, Y, Z), False), ((C, X, Y, Z), False), ((D, X, Y, Z), False)]
        table = ring(12, [((A, X, Y, Z), True), *stops, ((A, A, A, A), False)])
        found = self.told(table)
        many, longest = size_of_roads(found)
        self.assertGreater(longest, 36)
        self.assertGreater(many, 1500)

    def test_random_tables(self):
        rng = random.Random(26)
        grounds = {kind: terms_up_to(NUMBERS, kind, 2, (), (1,)) for kind in "no"}
        seen = {}
        for _ in range(700):
            table = self.random_table(rng)
            if not is_table(table):
                continue
            formed = Hands(table).is_formed()
            self.assertIs(is_formed(table), formed)
            try:
                found = loop(table)
            except (Unformed, Unsound) as error:
                word = error.__class__.__name__
                self.assertEqual(formed, word == "Unsound")
                self.assertTrue(not formed or fault(table, error.given) is not None)
            else:
                word = "ends" if found is None else "round"
                if found is None:
                    self.assertIsNone(some_round(table, grounds), table)
                    word += " closed" if "closed" in repr(self.told(table)) else ""
                else:
                    self.assertIs(is_round(table, found), True)
                    self.assertTrue(plain_is_round(table, *found))
                    self.assertIsNone(roads(table))
            seen[word] = seen.get(word, 0) + 1
        for word in ("ends", "ends closed", "round", "Unformed", "Unsound"):
            self.assertGreater(seen[word], 5, seen)

    def random_table(self, rng):
        kinds = rng.choice(("n", "o", "no", "nn"))
        heads = [(f"f{at}", tuple(rng.choice(kinds) for _ in range(rng.randint(1, 3)))) for at in range(rng.randint(1, 3))]
        definitions = []
        for name, params in heads:
            rows = [tuple(("?", f"v{at}") for at in range(len(params)))]
            for _ in range(rng.randint(0, 6)):
                row = tuple(self.random_pattern(rng, kind, 2) for kind in params)
                if plain_named(row) not in [plain_named(other) for other in rows]:
                    rows.append(row)
            cases = [(row, self.random_body(rng, heads, row, 0.3 if at else 0.2)) for at, row in enumerate(rows)]
            definitions.append((name, params, "n", tuple(cases)))
        join = ("join", ("n", "n"), "n", (((X, Y), X),))
        return (NUMBERS, (*definitions, join))

    def random_pattern(self, rng, kind, depth):
        if depth == 0 or rng.random() < 0.5:
            return ("?", kind + rng.choice("xy"))
        name, needs = rng.choice([(name, needs) for name, needs, made in NUMBERS[1] if made == kind])
        return (name, *[self.random_pattern(rng, need, depth - 1) for need in needs])

    def random_body(self, rng, heads, row, often):
        uses = []
        for _ in range(rng.choice((1, 1, 1, 2)) if rng.random() < often else 0):
            name, params = rng.choice(heads)
            order = rng.sample(range(len(row)), len(row))
            args = []
            for at, kind in enumerate(params):
                part = row[order[at]] if at < len(row) else ("z",) if kind == "n" else ("i",)
                args.append(rng.choice([part] * 6 + parts_of(part)))
            uses.append(use(name, *args))
        return ("z",) if not uses else uses[0] if len(uses) == 1 else use("join", *uses)


if __name__ == "__main__":
    unittest.main()
