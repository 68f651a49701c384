"""Definitions, tables, uses, and what uses choose: [15] to [19]."""

import itertools
import random
import unittest

from instances.patterns import named
from instances.tables import chosen_use, closing, fault, is_table, verdict
from samples import (
    INT, KINDS, MAKERS, NIL, NO, SIG, X, Y, YES, Z, ZERO, Hostile, chain, odd_values, plain_choice, plain_fit,
    plain_meet, plain_named, rows_up_to,
)

W = ("?", "w")
ONE = ("s", ZERO)
S, PTR = ("s", X), ("ptr", X)
PLUS = ("plus", ("count", "count"), "count", (((ZERO, Y), Y), ((S, Y), ("s", ("!", "plus", X, Y)))))
SAME = ("same", ("type", "type"), "truth", (((X, Y), NO), ((X, X), YES)))
BOTH = ("both", ("type", "type"), "truth", (((X, Y), NO), ((PTR, Y), YES), ((X, ("ptr", Y)), YES)))
TABLE = (SIG, (PLUS, SAME, BOTH))


def stranger(number, kind="type"):
    return ("#", kind, number)


def truths(name, params, *rows):
    """A definition whose cases have these patterns, all with the body no."""
    return (name, params, "truth", tuple((row, NO) for row in rows))


def table_of(*definitions, signature=SIG):
    return (signature, definitions)


class IsTableTest(unittest.TestCase):
    def yes(self, *definitions):
        self.assertIs(is_table(table_of(*definitions)), True)

    def no(self, *definitions):
        self.assertIs(is_table(table_of(*definitions)), False)

    def case(self, patterns, body, params=("count",), result="count"):
        """Whether this is a case, beside others of a right table."""
        just = ("just", ("count",), "count", (((X,), X),))
        return is_table(table_of(PLUS, SAME, just, ("f", params, result, ((patterns, body),))))

    def test_tables(self):
        self.yes()
        self.yes(PLUS)
        self.yes(PLUS, SAME, BOTH)
        self.yes(("f", ("count",), "count", ()))
        self.yes(truths("f", ("type",) * 4, (X, Y, Z, W)))
        self.assertIs(is_table((((("a", "open"),), ()), (("f", ("a",), "a", (((X,), X),)),))), True)

    def test_whatever_the_value_is(self):
        for value in odd_values() + [SIG, PLUS, (SIG,), (SIG, (), ()), [SIG, ()], (SIG, [PLUS]), (SIG, PLUS), ((KINDS,), ()),
                                     ((KINDS, MAKERS[1:]), ()), (SIG, None), (SIG, {}), (SIG, "plus"), (None, (PLUS,))]:
            self.assertIs(is_table(value), False, value)
        for value in odd_values():
            if value != () or isinstance(value, Hostile):
                self.assertIs(is_table((SIG, value)), False)
            self.no(value)
            self.no(PLUS, value)
            self.no((value, *PLUS[1:]) if not isinstance(value, str) or value not in ("x", "count") else ())
            self.no((PLUS[0], value, *PLUS[2:]))
            if not isinstance(value, str) or value != "count":
                self.no((*PLUS[:2], value, PLUS[3]))
            if not isinstance(value, tuple) or value:
                self.no((*PLUS[:3], value))
            self.no((*PLUS[:3], (value,)))
            self.no((*PLUS[:3], ((value, ZERO),)))
            self.no((*PLUS[:3], (((X, Y), value),)))
            self.no((*PLUS[:3], (((X, Y), ("s", value)),)))
            self.no((*PLUS[:3], (((X, Y), ("!", "plus", X, value)),)))
            self.no((*PLUS[:3], (((X, Y), ("!", value, X, Y)),)))
            self.no((*PLUS[:3], (((X, Y), (value, "plus", X, Y)),)))

    def test_how_many_definitions(self):
        many = [truths(f"f{at}", ("count",), (X,)) for at in range(13)]
        self.yes(*many[:12])
        self.no(*many)

    def test_names_are_unlike_one_another_and_the_makers(self):
        self.no(PLUS, PLUS)
        self.no(PLUS, SAME, ("plus", ("type",), "truth", ()))
        for name, needs, kind in MAKERS:
            self.no(PLUS, truths(name, ("count",), (X,)))
        # A kind may have a definition's name.
        for name, word in KINDS:
            self.yes(PLUS, truths(name, ("count",), (X,)))
        for name in ("a", "a" * 12, "f_1", "z0"):
            self.yes(truths(name, ("count",), (X,)))
        for name in ("", "a" * 13, "F", "_f", "1f", "f-", "f\n", b"f", ("f",), None, 1):
            self.no(truths(name, ("count",), (X,)))

    def test_parameters_and_results(self):
        for many in range(1, 5):
            self.yes(truths("f", ("count",) * many, tuple(("?", f"x{at}") for at in range(many))))
        self.no(truths("f", ()))
        self.no(truths("f", ("count",) * 5))
        self.no(truths("f", ("kind",)))
        self.no(truths("f", ["count"]))
        self.no(truths("f", "count"))
        self.no(truths("f", ("count", "z")))
        for kind, word in KINDS:
            self.yes(("f", (kind,), kind, (((X,), X),)))
        self.no(("f", ("count",), "kind", ()))
        self.no(("f", ("count",), ("count",), ()))
        self.no(("f", ("count",), "count"))
        self.no(("f", ("count",), "count", (), ()))
        self.no(["f", ("count",), "count", ()])

    def test_how_many_cases(self):
        rows = [(chain(n, ZERO),) for n in range(11)]
        self.yes(truths("f", ("count",), *rows[:10]))
        self.no(truths("f", ("count",), *rows))

    def test_cases(self):
        self.yes(("f", ("count",), "truth", (((X,), NO),)))
        for cases in ([((X,), NO)], {"a": ((X,), NO)}, (((X,), NO, NO),), ([(X,), NO],), (((X,),),), ((X, NO),), None, "case"):
            self.no(("f", ("count",), "truth", cases))
        for patterns in ((), (X, Y), [X], X, (YES,), (("s", YES),), (("#", "count", 1),), (("?", "X"),), (("s",),), None):
            self.no(truths("f", ("count",), patterns))
        self.no(truths("f", ("type",), (stranger(1),)))
        self.no(truths("f", ("count", "truth"), (X, X)))

    def test_no_two_cases_are_alike(self):
        pair = ("count", "count")
        self.yes(truths("f", pair, (X, Y), (X, X), (ZERO, X), (X, ZERO), (S, Y), (S, X)))
        for row in ((Y, X), (X, Y), (("?", "v1"), ("?", "v0"))):
            self.no(truths("f", pair, (X, Y), (X, X), row))
        self.no(truths("f", pair, (S, X), (ZERO, X), (("s", Y), Y)))
        self.no(truths("f", pair, (ZERO, ZERO), (X, X), (ZERO, ZERO)))
        # Two definitions may have the same patterns.
        self.yes(truths("f", pair, (X, Y)), truths("g", pair, (X, Y)))

    def test_bodies_of_makers_and_variables(self):
        self.assertTrue(self.case((X,), X))
        self.assertTrue(self.case((X,), ZERO))
        self.assertTrue(self.case((X,), chain(30, X)))
        self.assertTrue(self.case((ZERO,), ("s", ZERO)))
        self.assertFalse(self.case((X,), Y))
        self.assertFalse(self.case((ZERO,), X))
        self.assertFalse(self.case((X,), YES))
        self.assertFalse(self.case((X,), ("s", YES)))
        self.assertFalse(self.case((X,), ("s", X, X)))
        self.assertFalse(self.case((X,), ("s",)))
        self.assertFalse(self.case((X,), ["z"]))
        self.assertTrue(self.case((("cons", X, Y),), ("cons", X, ("cons", X, Y)), ("row",), "row"))
        self.assertFalse(self.case((("cons", X, Y),), ("cons", X, ("cons", X, X)), ("row",), "row"))
        self.assertFalse(self.case((("cons", X, Y),), ("cons", Y, Y), ("row",), "row"))
        self.assertFalse(self.case((("cons", X, Y),), X, ("row",), "row"))
        self.assertTrue(self.case((("cons", X, Y),), X, ("row",), "type"))
        # Nothing is said of strangers: they are no bodies.
        self.assertFalse(self.case((X,), stranger(1), ("type",), "type"))
        self.assertFalse(self.case((X,), ("ptr", stranger(1)), ("type",), "type"))

    def test_inner_uses(self):
        self.assertTrue(self.case((X,), ("!", "plus", X, X)))
        self.assertTrue(self.case((X,), ("s", ("!", "plus", ("s", X), ZERO))))
        self.assertTrue(self.case((X,), ("!", "plus", ("!", "plus", X, ZERO), ("!", "just", X))))
        self.assertTrue(self.case((X,), ("!", "f", X)))
        self.assertTrue(self.case((X, Y), ("!", "same", X, ("ptr", Y)), ("type", "type"), "truth"))
        for body in (
            ("!", "minus", X, X), ("!", "plus", X), ("!", "plus", X, X, X), ("!", "plus"), ("!",), ("!", "plus", X, Y),
            ("!", "plus", X, YES), ("!", "same", INT, INT), ("plus", X, X), ("!", "s", X), ("!", ("plus",), X, X),
            ["!", "plus", X, X], ("!", "count", X), ("!", "f"), ("!", "plus", X, ("!", "plus", X)),
            ("!", "plus", X, ("!", "same", INT, INT)), ("!", "f", X, X, X, X, X),
        ):
            self.assertFalse(self.case((X,), body), body)

    def test_definitions_are_used_wherever_they_stand(self):
        even = ("even", ("count",), "truth", (((ZERO,), YES), ((S,), ("!", "odd", X))))
        odd = ("odd", ("count",), "truth", (((ZERO,), NO), ((S,), ("!", "even", X))))
        self.yes(even, odd)
        self.yes(odd, even)
        self.no(even)
        self.no(even, PLUS)

    def test_very_deep_bodies(self):
        body = X
        for _ in range(300):
            body = ("!", "f", ("s", body))
        self.yes(("f", ("count",), "count", (((X,), body),)))


class VerdictTest(unittest.TestCase):
    def test_the_documents(self):
        self.assertEqual(verdict(TABLE, ("same", (INT, INT))), ("chosen", 1))
        self.assertEqual(verdict(TABLE, ("same", (INT, stranger(1)))), ("chosen", 0))
        self.assertEqual(verdict(TABLE, ("plus", (ZERO, ZERO))), ("chosen", 0))
        self.assertEqual(verdict(TABLE, ("both", (("ptr", INT), INT))), ("chosen", 1))
        self.assertEqual(verdict(TABLE, ("both", (("ptr", INT), ("ptr", INT)))), ("two", 1, 2))

    def test_none(self):
        self.assertEqual(verdict(table_of(truths("f", ("count",))), ("f", (ZERO,))), ("none",))
        table = table_of(truths("f", ("count", "count"), (ZERO, X), (X, X)))
        self.assertEqual(verdict(table, ("f", (ONE, ZERO))), ("none",))
        self.assertEqual(verdict(table, ("f", (ONE, ONE))), ("chosen", 1))

    def test_strangers_are_one_if_their_numbers_are(self):
        self.assertEqual(verdict(TABLE, ("same", (stranger(7), stranger(7)))), ("chosen", 1))
        self.assertEqual(verdict(TABLE, ("same", (stranger(7), stranger(70)))), ("chosen", 0))
        self.assertEqual(verdict(TABLE, ("same", (stranger(10 ** 19), stranger(10 ** 19)))), ("chosen", 1))

    def test_the_least_two(self):
        # 0 and 1 are less special than 3; 2, 3 and 4 are such that no other one is as special.
        table = table_of(truths("f", ("type",) * 3, (X, Y, Z), (X, X, Z), (X, Y, Y), (X, X, INT), (X, Y, X)))
        self.assertEqual(verdict(table, ("f", (INT, INT, INT))), ("two", 2, 3))
        self.assertEqual(verdict(table, ("f", (stranger(1),) * 3)), ("two", 1, 2))
        self.assertEqual(verdict(table, ("f", (stranger(1), stranger(1), INT))), ("chosen", 3))
        self.assertEqual(verdict(table, ("f", (stranger(1), stranger(2), stranger(1)))), ("chosen", 4))
        self.assertEqual(verdict(table, ("f", (INT, ("ptr", INT), stranger(1)))), ("chosen", 0))

    def test_the_most_special_one_wherever_it_stands(self):
        rows = [(X, Y), (X, X), (PTR, Y), (("ptr", X), ("ptr", X)), (X, ("ptr", Y)), (PTR, ("ptr", Y))]
        for order in itertools.permutations(range(len(rows))):
            table = table_of(truths("f", ("type", "type"), *[rows[at] for at in order]))
            self.assertEqual(verdict(table, ("f", (("ptr", INT), ("ptr", INT)))), ("chosen", order.index(3)))
            self.assertEqual(verdict(table, ("f", (("ptr", INT), ("ptr", stranger(1))))), ("chosen", order.index(5)))
            self.assertEqual(verdict(table, ("f", (INT, INT))), ("chosen", order.index(1)))

    def test_against_the_plain_way(self):
        rng = random.Random(3)
        pool = rows_up_to(SIG, ("type", "count"), 2, (("x", "type"), ("y", "count")))
        pool += rows_up_to(SIG, ("type", "count"), 1, (("a", "type"), ("b", "count")))
        uses = rows_up_to(SIG, ("type", "count"), 3, (), (1, 2))
        for _ in range(150):
            rows = list({plain_named(row): row for row in rng.sample(pool, 9)}.values())
            table = table_of(truths("f", ("type", "count"), *rows))
            for args in uses:
                self.assertEqual(verdict(table, ("f", args)), plain_choice(table[1][0][3], args), (rows, args))

    def test_deep_uses(self):
        deep = chain(39, ZERO)
        self.assertEqual(verdict(TABLE, ("plus", (deep, deep))), ("chosen", 1))
        self.assertEqual(verdict(TABLE, ("plus", (chain(350, ZERO), ZERO))), ("chosen", 1))


class FaultTest(unittest.TestCase):
    def sound(self, params, *rows, signature=SIG):
        self.assertIsNone(fault(table_of(truths("f", params, *rows), signature=signature), "f"), rows)

    def unsound(self, word, params, *rows, signature=SIG):
        table = table_of(truths("f", params, *rows), signature=signature)
        use = fault(table, "f")
        self.assertIsNotNone(use, rows)
        self.assertEqual(use[0], "f")
        self.assertEqual(verdict(table, use)[0], word, (rows, use))

    def test_none_at_all(self):
        self.unsound("none", ("count",))
        self.unsound("none", ("type",), (INT,), (PTR,))
        self.unsound("none", ("type", "type"), (X, X))
        self.unsound("none", ("count",), (ZERO,), (("s", S),))
        self.sound(("count",), (ZERO,), (S,))
        self.sound(("count",), (ZERO,), (S,), (("s", S),))

    def test_two(self):
        pair = ("type", "type")
        self.unsound("two", pair, (X, Y), (PTR, Y), (X, ("ptr", Y)))
        self.sound(pair, (X, Y), (PTR, Y), (X, ("ptr", Y)), (PTR, ("ptr", Y)))
        # The meet must be there itself, where kinds are open: some of its instances do not do.
        self.unsound("two", pair, (X, Y), (PTR, Y), (X, ("ptr", Y)), (PTR, PTR))
        self.unsound("two", pair, (X, Y), (PTR, Y), (X, ("ptr", Y)), (("ptr", INT), ("ptr", Y)), (PTR, ("ptr", INT)))
        self.unsound("two", pair, (X, Y), (X, X), (INT, X))
        self.sound(pair, (X, Y), (X, X), (INT, X), (INT, INT))

    def test_several_cases_cover_a_meet_of_closed_kinds(self):
        pair = ("count", "count")
        rows = ((X, Y), (S, Y), (X, ("s", Y)))
        self.unsound("two", pair, *rows)
        self.sound(pair, *rows, (S, ("s", Y)))
        self.sound(pair, *rows, (("s", ZERO), ("s", Y)), (("s", S), ("s", Y)))
        self.unsound("two", pair, *rows, (("s", ZERO), ("s", Y)), (("s", S), ("s", ZERO)))
        self.sound(
            ("truth",) * 3, (X, Y, Z), (YES, Y, Z), (X, YES, Z), (YES, YES, YES), (YES, YES, NO)
        )
        self.unsound("two", ("truth",) * 3, (X, Y, Z), (YES, Y, Z), (X, YES, Z), (YES, YES, YES))

    def test_only_cases_as_special_as_both_count(self):
        pair = ("truth", "truth")
        # (yes, yes) fits (x, x), but this is not as special as the two others.
        self.unsound("two", pair, (X, Y), (YES, X), (X, YES), (X, X))
        self.sound(pair, (X, Y), (YES, X), (X, YES), (X, X), (YES, YES), (NO, NO))

    def test_cases_without_a_meet(self):
        self.sound(("truth", "count"), (YES, X), (NO, ZERO), (NO, S))
        self.sound(("type", "type"), (X, Y), (X, X), (X, PTR))
        self.sound(("type", "type"), (X, Y), (INT, X), (PTR, Y))

    def test_the_documents(self):
        self.assertIsNone(fault(TABLE, "plus"))
        self.assertIsNone(fault(TABLE, "same"))
        self.assertEqual(verdict(TABLE, fault(TABLE, "both")), ("two", 1, 2))

    def test_against_all_uses(self):
        rng = random.Random(8)
        for kinds in (("count", "truth"), ("type", "count"), ("truth", "truth"), ("type", "type")):
            variables = (("x", kinds[0]), ("y", kinds[1])) if kinds[0] != kinds[1] else (("x", kinds[0]), ("y", kinds[0]))
            pool = rows_up_to(SIG, kinds, 2, variables)
            uses = rows_up_to(SIG, kinds, 4, (), (1, 2))
            told = []
            for _ in range(200):
                rows = [(X, Y)] if rng.random() < 0.8 else []
                rows = list({plain_named(row): row for row in rows + rng.sample(pool, rng.randint(1, 6))}.values())
                table = table_of(truths("f", kinds, *rows))
                use = fault(table, "f")
                told.append(use is None)
                if use is None:
                    for args in uses:
                        self.assertEqual(plain_choice(table[1][0][3], args)[0], "chosen", (rows, args))
                else:
                    self.assertIn(plain_choice(table[1][0][3], use[1])[0], ("none", "two"))
            self.assertGreater(told.count(True), 5)
            self.assertGreater(told.count(False), 5)


class ChosenUseTest(unittest.TestCase):
    def regions(self, params, *rows):
        """For each case whether it is not dead; the uses that are told are looked at."""
        table = table_of(truths("f", params, *rows))
        told = []
        for case in range(len(rows)):
            use = chosen_use(table, "f", case)
            if use is not None:
                self.assertEqual(verdict(table, use), ("chosen", case))
            told.append(use is not None)
        return told

    def test_the_documents(self):
        for name, many in (("plus", 2), ("same", 2), ("both", 3)):
            for case in range(many):
                use = chosen_use(TABLE, name, case)
                self.assertEqual((use[0], verdict(TABLE, use)), (name, ("chosen", case)))

    def test_dead_cases(self):
        self.assertEqual(self.regions(("count",), (X,), (ZERO,), (S,)), [False, True, True])
        self.assertEqual(self.regions(("type",), (X,), (INT,), (PTR,)), [True, True, True])
        self.assertEqual(self.regions(("count",), (X,)), [True])
        self.assertEqual(self.regions(("count",), (X,), (("s", S),), (S,)), [True, True, True])
        self.assertEqual(self.regions(("count",), (X,), (("s", S),), (("s", ZERO),), (S,)), [True, True, True, False])
        self.assertEqual(self.regions(("truth", "truth"), (X, Y), (X, X), (YES, NO), (NO, YES)), [False, True, True, True])
        self.assertEqual(self.regions(("type", "type"), (X, Y), (X, X), (INT, INT)), [True, True, True])

    def test_what_bars_may_be_less_special_than_nothing(self):
        # (x, yes) bars (yes, x) though neither is as special as the other.
        self.assertEqual(self.regions(("truth", "truth"), (YES, X), (X, YES), (YES, NO)), [False, True, True])
        self.assertEqual(self.regions(("truth", "truth"), (YES, X), (X, YES), (X, NO)), [False, True, True])
        self.assertEqual(self.regions(("truth", "truth"), (YES, X), (X, YES), (X, Y)), [True, True, True])

    def test_against_all_uses(self):
        rng = random.Random(5)
        for kinds in (("count", "truth"), ("truth", "type")):
            pool = rows_up_to(SIG, kinds, 2, (("x", kinds[0]), ("y", kinds[1])))
            uses = rows_up_to(SIG, kinds, 4, (), (1, 2))
            dead = 0
            for _ in range(150):
                rows = list({plain_named(row): row for row in [(X, Y)] + rng.sample(pool, 5)}.values())
                table = table_of(truths("f", kinds, *rows))
                chosen = {plain_choice(table[1][0][3], args) for args in uses}
                told = self.regions(kinds, *rows)
                self.assertEqual(told, [("chosen", case) in chosen for case in range(len(rows))], rows)
                dead += told.count(False)
            self.assertGreater(dead, 10)


class ClosingTest(unittest.TestCase):
    def told(self, params, *rows):
        return closing(table_of(truths("f", params, *rows)), "f")

    def test_the_documents(self):
        v1, v2 = ("?", "v1"), ("?", "v2")
        self.assertEqual(closing(TABLE, "both"), ((("ptr", v1), ("ptr", v2)),))
        self.assertEqual(closing(TABLE, "same"), ())
        self.assertEqual(closing(TABLE, "plus"), ())

    def test_no_cases_or_one(self):
        self.assertEqual(self.told(("count",)), ())
        self.assertEqual(self.told(("count",), (X,)), ())

    def test_meets_of_meets(self):
        v1, v2 = ("?", "v1"), ("?", "v2")
        rows = ((PTR, Y, Z), (X, ("ptr", Y), Z), (X, Y, ("ptr", Z)))
        p1, p2, p3 = ("ptr", v1), ("ptr", v2), ("ptr", ("?", "v3"))
        self.assertEqual(
            self.told(("type",) * 3, *rows),
            tuple(sorted([(p1, p2, ("?", "v3")), (p1, v2, p3), (v1, p2, p3), (p1, p2, p3)])),
        )
        # A meet that is there as a case, whatever its variables' names, is none of them, nor hides one below it.
        self.assertEqual(
            self.told(("type",) * 3, *rows, (("ptr", W), ("ptr", X), Y)),
            tuple(sorted([(p1, v2, p3), (v1, p2, p3), (p1, p2, p3)])),
        )
        self.assertEqual(
            self.told(("type", "type"), (X, X), (INT, Y), (Y, PTR)), tuple(sorted([(INT, INT), (p1, p1), (INT, p1)]))
        )

    def test_ascending_and_named_anew(self):
        found = self.told(("count", "count"), (S, Y), (X, ("s", Y)), (X, X), (ZERO, Y), (X, ZERO))
        self.assertEqual(found, tuple(sorted(set(found))))
        for row in found:
            self.assertEqual(named(SIG, ("count", "count"), row), row)
        self.assertIn((ZERO, ZERO), found)
        self.assertIn((("s", ("?", "v1")), ("s", ("?", "v1"))), found)
        # v10 stands ahead of v2, as texts do.
        self.assertEqual(sorted([(("?", "v10"),), (("?", "v2"),)])[0], (("?", "v10"),))

    def test_against_meets_of_all_sets_of_cases(self):
        rng = random.Random(2)
        pool = rows_up_to(SIG, ("type", "type"), 2, (("x", "type"), ("y", "type")))
        for _ in range(60):
            rows = list({plain_named(row): row for row in rng.sample(pool, 5)}.values())
            self.assertEqual(self.told(("type", "type"), *rows), self.plain_closing(rows), rows)

    def plain_closing(self, rows):
        found = set()
        for many in range(2, len(rows) + 1):
            for some in itertools.combinations(rows, many):
                met = plain_named(some[0])
                for row in some[1:]:
                    met = met and plain_meet(met, row)
                if met and not any(plain_fit(row, met) and plain_fit(met, row) for row in rows):
                    found.add(met)
        return tuple(sorted(found))

    def test_ten_cases(self):
        # Ten places of a row, each wanted to be int by a case of its own: all sets of two or more are unlike meets.
        rows = []
        for at in range(10):
            places = [("?", f"x{place}") for place in range(12)]
            places[at] = INT
            rows.append(tuple(self.chained(places[first:first + 3]) for first in (0, 3, 6, 9)))
        found = self.told(("row",) * 4, *rows)
        self.assertEqual(len(found), 2 ** 10 - 11)
        self.assertEqual(found, tuple(sorted(found)))

    def chained(self, parts):
        return ("cons", parts[0], ("cons", parts[1], ("cons", parts[2], NIL)))


if __name__ == "__main__":
    unittest.main()
