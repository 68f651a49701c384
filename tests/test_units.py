"""Units, what they choose, needed cases, unlike choices, and linking: [27] to [30]."""

import random
import unittest

from instances.runs import instances, run
from instances.tables import fault, is_table, verdict
from instances.units import is_program, link, needed, unit_verdict, unlike
from programs import EVER, LAST, LESS, ONE, PLUS, PROGRAM, PTR, S, SAME, TABLE, TIMES, TWO, table_of
from samples import (
    INT, NO, SIG, X, Y, ZERO, Hostile, chain, odd_values, plain_choice, plain_fit, plain_named, plain_run,
    rows_up_to,
)

COUNTS = ("count", "count")
ALL = ((0, 1), (0, 1), (0, 1, 2))


def unit(name, seen=ALL, *roots):
    return (name, seen, roots)


def is_zero(value):
    return isinstance(value, int) and not isinstance(value, bool) and value == 0


def own_table(program, at):
    """The unit's own table, and for each definition the indexes of its cases in the whole table."""
    (signature, definitions), units = program
    seen = units[at][1]
    own = tuple(
        (name, params, result, tuple(cases[case] for case in numbers))
        for (name, params, result, cases), numbers in zip(definitions, seen)
    )
    return (signature, own), {told[0]: numbers for told, numbers in zip(definitions, seen)}


def plain_verdict(program, at, use):
    """What the unit chooses, told by its own table."""
    (signature, definitions), numbers = own_table(program, at)
    [cases] = [cases for name, params, result, cases in definitions if name == use[0]]
    answer = plain_choice(cases, use[1])
    return (answer[0], *[numbers[use[0]][case] for case in answer[1:]])


def plain_link(program):
    """What linking tells, worked out as [30] tells it."""
    told = []
    for at, (name, seen, roots) in enumerate(program[1]):
        table, numbers = own_table(program, at)
        found = {}
        for number, root in enumerate(roots):
            answer, steps = plain_run(table, root)
            if answer[0] != "value":
                return ("stops", at, number, answer)
            for use, case, value in steps:
                found.setdefault(use, (use, numbers[use[0]][case], value))
        told.append(found)
    for later in range(len(told)):
        for ahead in range(later):
            for use, (_, case, value) in told[later].items():
                if use in told[ahead] and told[ahead][use][1] != case:
                    return ("clash", ahead, later, use)
    linked = {}
    for found in told:
        for use, instance in found.items():
            linked.setdefault(use, instance)
    return ("linked", tuple(linked.values()))


class IsProgramTest(unittest.TestCase):
    def yes(self, *units, table=TABLE):
        self.assertIs(is_program((table, units)), True, units)

    def no(self, *units, table=TABLE):
        self.assertIs(is_program((table, units)), False, units)

    def test_programs(self):
        self.assertIs(is_program(PROGRAM), True)
        self.yes()
        self.yes(table=table_of())
        self.yes(("u", (), ()), table=table_of())
        self.yes(unit("u", ((), (), ())))
        self.yes(unit("u", ((1,), (0,), (0, 2)), ("plus", (ONE, ZERO))))
        self.yes(unit("u", ALL, ("both", (INT, ("#", "type", 10 ** 25)))))

    def test_six_units_and_seven(self):
        many = [unit(f"u{at}") for at in range(7)]
        self.yes(*many[:6])
        self.no(*many)

    def test_ten_roots_and_eleven(self):
        root = ("same", (INT, INT))
        self.yes(unit("u", ALL, *[root] * 10))
        self.no(unit("u", ALL, *[root] * 11))

    def test_names(self):
        self.no(unit("u"), unit("v"), unit("u"))
        # A unit may have the name of anything else.
        for name in ("a", "a" * 12, "u_1", "plus", "count", "z"):
            self.yes(unit(name))
        for name in ("", "a" * 13, "U", "_u", "1", "u\n", b"u", ("u",), None, 1, True):
            self.no(unit(name))

    def test_what_is_seen(self):
        for seen in (((), (), ()), ((0,), (1,), (2,)), ((0, 1), (), (0, 1, 2)), ((1,), (0, 1), (0, 2))):
            self.yes(unit("u", seen))
        for seen in (
            (), ((), ()), ((), (), (), ()), [(), (), ()], ((), [], ()), ((2,), (), ()), ((-1,), (), ()), ((1, 0), (), ()),
            ((0, 0), (), ()), ((True,), (), ()), ((False, 1), (), ()), ((0, True), (), ()), ((0, None), (), ()), (0, 1, 2),
            (("0",), (), ()), ((), (), (0, 1, 2, 3)), ((), (), (0, 2, 1)), None, "abc", (None, (), ()), ((10 ** 40,), (), ()),
        ):
            self.no(unit("u", seen))

    def test_roots(self):
        for roots in ([("same", (INT, INT))], (("same", (INT,)),), (("same", (INT, X)),), (("s", (ZERO,)),), ("same",), None,
                      (("plus", (ZERO, ZERO)), ("plus", (ZERO, INT))), ("same", (INT, INT)), (["same", (INT, INT)],)):
            self.no(("u", ALL, roots))

    def test_whatever_the_value_is(self):
        for value in odd_values() + [TABLE, (TABLE,), (TABLE, (), ()), [TABLE, ()], (TABLE, []), (TABLE, LAST), (SIG, ()), LAST,
                                     (TABLE, None), (TABLE, {}), (None, ())]:
            self.assertIs(is_program(value), False, value)
        for value in odd_values():
            if value != () or isinstance(value, Hostile):
                self.assertIs(is_program((TABLE, value)), False)
                self.no(("u", value, ()))
            self.assertIs(is_program((value, ())), False)
            self.no(value)
            self.no(LAST, value)
            if not isinstance(value, str) or value not in ("x", "count"):
                self.no((value, ALL, ()))
            if not isinstance(value, tuple) or value:
                self.no(("u", ALL, value))
            if not isinstance(value, tuple) or isinstance(value, tuple) and value != () and not is_zero(value[0]):
                self.no(("u", (value, (), ()), ()))
            self.no(("u", ALL, (value,)))
            self.no(("u", ALL, (("same", (INT, value)),)))
            if not isinstance(value, int) or isinstance(value, bool) or value not in (0, 1):
                self.no(("u", ((value,), (), ()), ()))
        self.no([*LAST])
        self.no(LAST[:2])
        self.no((*LAST, ()))


class VerdictTest(unittest.TestCase):
    def test_the_documents(self):
        self.assertEqual(unit_verdict(PROGRAM, 0, ("same", (INT, INT))), ("chosen", 1))
        self.assertEqual(unit_verdict(PROGRAM, 1, ("same", (INT, INT))), ("chosen", 0))

    def test_cases_are_told_by_their_indexes_in_the_table(self):
        program = (TABLE, (unit("u", ((1,), (1,), (1, 2))), unit("v", ((), (), (0, 2))), unit("w", ((), (), ()))))
        double = ("both", (("ptr", INT), ("ptr", INT)))
        self.assertEqual(unit_verdict(program, 0, ("plus", (ONE, ZERO))), ("chosen", 1))
        self.assertEqual(unit_verdict(program, 0, ("plus", (ZERO, ZERO))), ("none",))
        self.assertEqual(unit_verdict(program, 0, double), ("two", 1, 2))
        self.assertEqual(unit_verdict(program, 1, double), ("chosen", 2))
        self.assertEqual(unit_verdict(program, 1, ("both", (INT, INT))), ("chosen", 0))
        self.assertEqual(unit_verdict(program, 2, double), ("none",))

    def test_a_unit_that_sees_all_chooses_as_the_table(self):
        for use in (("plus", (ONE, TWO)), ("same", (INT, INT)), ("both", (("ptr", INT), ("ptr", INT))), ("both", (INT, INT))):
            self.assertEqual(unit_verdict(PROGRAM, 0, use), verdict(TABLE, use))

    def test_a_sound_table_and_a_unit_that_sees_what_it_chooses(self):
        rows = ((X, Y), (X, X), (ZERO, Y), (ZERO, ZERO), (S, ZERO))
        table = table_of(("f", COUNTS, "truth", tuple((row, NO) for row in rows)))
        self.assertIsNone(fault(table, "f"))
        many = len(table[1][0][3])
        for bits in range(1 << many):
            seen = tuple(case for case in range(many) if bits >> case & 1)
            program = (table, (("u", (seen,), ()),))
            for args in rows_up_to(SIG, COUNTS, 2):
                told = verdict(table, ("f", args))
                mine = unit_verdict(program, 0, ("f", args))
                self.assertEqual(mine, plain_verdict(program, 0, ("f", args)))
                self.assertEqual(mine == told, told[1] in seen)


class NeededTest(unittest.TestCase):
    def test_the_documents(self):
        for name, patterns, told in (
            ("same", (X, Y), (0, 1)), ("same", (X, X), (1,)), ("same", (INT, PTR), (0,)), ("both", (PTR, Y), (1,)),
        ):
            self.assertEqual(needed(TABLE, name, patterns), told)

    def test_more(self):
        self.assertEqual(needed(TABLE, "plus", (X, Y)), (0, 1))
        self.assertEqual(needed(TABLE, "plus", (ZERO, Y)), (0,))
        self.assertEqual(needed(TABLE, "plus", (S, S)), (1,))
        self.assertEqual(needed(TABLE, "both", (X, Y)), (0, 1, 2))
        self.assertEqual(needed(TABLE, "both", (PTR, ("ptr", Y))), ())
        self.assertEqual(needed(TABLE, "both", (INT, INT)), (0,))
        self.assertEqual(needed(table_of(("f", ("count",), "count", ())), "f", (X,)), ())
        # Dead where the patterns are, though not elsewhere.
        table = table_of(("f", ("count",), "truth", (((X,), NO), ((ZERO,), NO), ((ONE,), NO), ((("s", S),), NO))))
        self.assertEqual(needed(table, "f", (X,)), (1, 2, 3))
        self.assertEqual(needed(table, "f", (S,)), (2, 3))

    def test_random_definitions_against_all_small_uses(self):
        rng = random.Random(28)
        grounds = rows_up_to(SIG, ("count", "type"), 4, (), (1, 2))
        pools = rows_up_to(SIG, ("count", "type"), 2, (("x", "count"), ("y", "type")))
        lengths = set()
        for _ in range(60):
            rows = []
            for row in rng.sample(pools, rng.randint(1, 5)):
                if plain_named(row) not in [plain_named(other) for other in rows]:
                    rows.append(row)
            table = table_of(("f", ("count", "type"), "truth", tuple((row, NO) for row in rows)))
            chosen = {args: plain_choice(table[1][0][3], args) for args in grounds}
            for patterns in rng.sample(pools, 12):
                told = {answer[1] for args, answer in chosen.items() if answer[0] == "chosen" and plain_fit(patterns, args)}
                self.assertEqual(needed(table, "f", patterns), tuple(sorted(told)), (rows, patterns))
                lengths.add(len(told))
        self.assertLessEqual({0, 1, 2, 3}, lengths)


class UnlikeTest(unittest.TestCase):
    def test_the_documents(self):
        self.assertIsNone(unlike(PROGRAM, 0, 1, "plus"))
        self.assertEqual(unit_verdict(PROGRAM, 0, unlike(PROGRAM, 0, 1, "same")), ("chosen", 1))

    def test_more(self):
        program = (TABLE, (unit("u"), unit("v", ((0,), (1,), (1,))), unit("w", ((1,), (), (2,)))))
        for one in range(3):
            for name in ("plus", "same", "both"):
                self.assertIsNone(unlike(program, one, one, name))
        # One chooses the less special case just where the other one has none.
        for one, other, name in ((0, 1, "same"), (1, 2, "plus"), (0, 2, "same"), (0, 1, "plus"), (0, 1, "both")):
            self.assertIsNone(unlike(program, one, other, name), (one, other, name))
            self.assertIsNone(unlike(program, other, one, name))
        found = unlike(program, 1, 2, "both")
        self.assertEqual((unit_verdict(program, 1, found), unit_verdict(program, 2, found)), (("chosen", 1), ("chosen", 2)))

    def test_random_programs_against_all_small_uses(self):
        rng = random.Random(29)
        grounds = rows_up_to(SIG, ("count", "type"), 4, (), (1, 2))
        pools = rows_up_to(SIG, ("count", "type"), 2, (("x", "count"), ("y", "type")))
        answers = {True: 0, False: 0}
        for _ in range(60):
            rows = []
            for row in rng.sample(pools, rng.randint(2, 6)):
                if plain_named(row) not in [plain_named(other) for other in rows]:
                    rows.append(row)
            table = table_of(("f", ("count", "type"), "truth", tuple((row, NO) for row in rows)))
            units = [
                (f"u{at}", (tuple(case for case in range(len(rows)) if rng.random() < 0.6),), ()) for at in range(3)
            ]
            program = (table, tuple(units))
            self.assertIs(is_program(program), True)
            for one, other in ((0, 1), (1, 0), (0, 2), (1, 1)):
                told = []
                for args in grounds:
                    both = [plain_verdict(program, at, ("f", args)) for at in (one, other)]
                    if both[0] != both[1] and both[0][0] == both[1][0] == "chosen":
                        told.append(args)
                found = unlike(program, one, other, "f")
                self.assertEqual(found is not None, bool(told), program)
                if found is not None:
                    both = [plain_verdict(program, at, found) for at in (one, other)]
                    self.assertNotEqual(both[0], both[1])
                    self.assertEqual([answer[0] for answer in both], ["chosen", "chosen"])
                answers[bool(told)] += 1
        self.assertGreater(min(answers.values()), 20)


class LinkTest(unittest.TestCase):
    def told(self, program):
        self.assertIs(is_program(program), True)
        answer = link(program)
        self.assertEqual(answer, plain_link(program))
        return answer

    def test_the_documents(self):
        self.assertEqual(self.told(PROGRAM), ("clash", 0, 1, ("same", (INT, INT))))
        seen = ((0, 1), (), ())
        program = (TABLE, (unit("c", seen, ("plus", (ZERO, ZERO))), unit("d", ((1,), (), ()))))
        self.assertEqual(self.told(program), ("linked", ((("plus", (ZERO, ZERO)), 0, ZERO),)))

    def test_nothing_to_link(self):
        self.assertEqual(self.told((TABLE, ())), ("linked", ()))
        self.assertEqual(self.told((TABLE, (unit("u"), unit("v", ((), (), ()))))), ("linked", ()))

    def test_each_instance_once_in_the_order_in_which_they_are_found(self):
        uses = [("plus", (TWO, ZERO)), ("plus", (ONE, ONE)), ("plus", (TWO, ZERO)), ("plus", (chain(3, ZERO), ZERO))]
        program = (TABLE, (unit("u", ALL, uses[0], uses[1]), unit("v", ALL, uses[2], uses[3], uses[1]), unit("w", ALL, uses[0])))
        answer = self.told(program)
        names = [use for use, case, value in answer[1]]
        self.assertEqual(names, [
            ("plus", (ZERO, ZERO)), ("plus", (ONE, ZERO)), uses[0], ("plus", (ZERO, ONE)), uses[1], uses[3],
        ])
        for use, case, value in answer[1]:
            self.assertEqual(run(TABLE, use), ("value", value))
            self.assertEqual(verdict(TABLE, use), ("chosen", case))

    def test_one_unit_is_as_its_own_table(self):
        table = table_of(PLUS, TIMES)
        use = ("times", (TWO, chain(3, ZERO)))
        self.assertEqual(self.told((table, (("u", ((0, 1), (0, 1)), (use,)),))), ("linked", instances(table, use)))

    def test_a_root_without_a_value_is_told_first_of_all(self):
        root = ("same", (INT, INT))
        bad = ("both", (("ptr", INT), ("ptr", INT)))
        none = ("plus", (ZERO, ZERO))
        see = ((1,), (0,), (0, 1, 2))
        program = (TABLE, (unit("u", ALL, root), unit("v", see, root), unit("w", ALL, root, bad), unit("x", see, none)))
        self.assertEqual(self.told(program), ("stops", 2, 1, ("two", bad)))
        self.assertEqual(self.told((TABLE, program[1][:2])), ("clash", 0, 1, root))
        self.assertEqual(self.told((TABLE, program[1][3:])), ("stops", 0, 0, ("none", none)))
        # What is told of it is the use at which its run stops, in the unit's own table.
        self.assertEqual(
            self.told((TABLE, (unit("x", see, root, ("plus", (TWO, ONE))),))), ("stops", 0, 1, ("none", ("plus", (ZERO, ONE)))),
        )

    def test_roots_that_come_round_or_are_too_great(self):
        table = table_of(EVER, PLUS)
        self.assertEqual(
            self.told((table, (("u", ((0,), (0, 1)), (("plus", (ZERO, ONE)), ("ever", (ONE,)))),))),
            ("stops", 0, 1, ("round", ("ever", (ONE,)))),
        )
        great = ("plus", (chain(30, ZERO), chain(30, ZERO)))
        self.assertEqual(self.told((table, (("u", ((), (0, 1)), (great,)),))), ("stops", 0, 0, ("great",)))

    def test_clashes_the_least_later_unit_then_the_least_earlier_one(self):
        one, two = ("same", (INT, INT)), ("same", (("ptr", INT), ("ptr", INT)))
        all_, less = ALL, ((0, 1), (0,), (0, 1, 2))
        for units, answer in (
            ((unit("a", all_, one), unit("b", all_, two), unit("c", less, two, one)), ("clash", 0, 2, one)),
            ((unit("a", all_, two), unit("b", all_, one), unit("c", less, two, one)), ("clash", 0, 2, two)),
            ((unit("a", less, two), unit("b", all_, one), unit("c", less, two, one)), ("clash", 1, 2, one)),
            ((unit("a", less, two), unit("b", all_, one, two), unit("c", less, one)), ("clash", 0, 1, two)),
            ((unit("a", all_, one, two), unit("b", less, two, one)), ("clash", 0, 1, two)),
            ((unit("a", all_, one), unit("b", less, two), unit("c", all_, one), unit("d", less, one)), ("clash", 0, 3, one)),
        ):
            self.assertEqual(self.told((TABLE, units)), answer)

    def test_a_clash_at_an_instance_within(self):
        wrap = ("wrap", ("type",), "truth", (((X,), ("!", "same", X, X)),))
        table = table_of(SAME, wrap)
        units = (("u", ((0, 1), (0,)), (("wrap", (INT,)),)), ("v", ((0,), (0,)), (("wrap", (INT,)),)))
        self.assertEqual(self.told((table, units)), ("clash", 0, 1, ("same", (INT, INT))))

    def test_no_clash_where_no_two_units_choose_unlike(self):
        seen = ((0, 1), (0,), (1,))
        program = (TABLE, (unit("u", seen, ("same", (INT, INT)), ("plus", (TWO, TWO))), unit("v", seen, ("plus", (ONE, TWO)))))
        for name in ("plus", "same", "both"):
            self.assertIsNone(unlike(program, 0, 1, name))
        self.assertEqual(self.told(program)[0], "linked")

    def test_a_use_chosen_unlike_clashes_as_a_root_of_both(self):
        found = unlike(PROGRAM, 0, 1, "same")
        units = ((*LAST[:2], (found,)), (*LESS[:2], (found,)))
        self.assertEqual(self.told((TABLE, units)), ("clash", 0, 1, found))

    def test_many_roots_and_deep_uses(self):
        down = ("down", COUNTS, "count", (
            ((ZERO, ZERO), ZERO), ((S, Y), ("!", "down", X, Y)), ((ZERO, ("s", Y)), ("!", "down", chain(29, ZERO), Y)),
        ))
        table = table_of(down)
        roots = tuple(("down", (chain(29 - at, ZERO), chain(4, ZERO))) for at in range(10))
        program = (table, tuple((f"u{at}", ((0, 1, 2),), roots) for at in range(6)))
        answer = link(program)
        self.assertEqual((answer[0], len(answer[1])), ("linked", 150))
        more = ("down", (ZERO, chain(5, ZERO)))
        program = (table, (("u", ((0, 1, 2),), (*roots[:9], more)),))
        self.assertEqual(link(program), ("stops", 0, 9, ("great",)))

    def test_deep_terms(self):
        drop = ("drop", ("count",), "count", (((X,), ZERO), ((ZERO,), ZERO)))
        program = (table_of(drop), (("u", ((0,),), (("drop", (chain(350, ZERO),)),)), ("v", ((0, 1),), (("drop", (chain(350, ZERO),)),))))
        self.assertEqual(len(link(program)[1]), 1)

    def test_random_programs(self):
        rng = random.Random(30)
        heads = [("f", ("count",), "count"), ("g", COUNTS, "count"), ("h", ("count",), "count")]
        rows = {1: [(X,), (ZERO,), (S,), (ONE,), (("s", S),)], 2: [(X, Y), (ZERO, Y), (X, ZERO), (S, Y), (X, X), (S, S), (S, X)]}
        answers = {}
        for _ in range(400):
            definitions = []
            for name, params, result in heads:
                chosen = rows[len(params)][:1] + rng.sample(rows[len(params)][1:], rng.randint(1, 3))
                cases = tuple((row, self.random_body(rng, heads, row, rng.choice((0, 0, 2)))) for row in chosen)
                definitions.append((name, params, result, cases))
            table = (SIG, tuple(definitions))
            self.assertIs(is_table(table), True)
            units = []
            for at in range(rng.randint(1, 3)):
                seen = tuple(tuple(case for case in range(len(told[3])) if rng.random() < 0.7 or not case) for told in definitions)
                roots = [self.random_use(rng, heads) for _ in range(rng.randint(0, 4))]
                units.append((f"u{at}", seen, tuple(roots)))
            answer = self.told((table, tuple(units)))
            answers[answer[0]] = answers.get(answer[0], 0) + 1
        for word in ("linked", "stops", "clash"):
            self.assertGreater(answers[word], 5, answers)

    def random_use(self, rng, heads):
        name, params, result = rng.choice(heads)
        return (name, tuple(chain(rng.randint(0, 2), ZERO) for _ in params))

    def random_body(self, rng, heads, row, depth):
        variables = [X] if "x" in str(row) else []
        variables += [Y] if "y" in str(row) else []
        if depth == 0 or rng.random() < 0.3:
            return rng.choice(variables + [ZERO])
        if rng.random() < 0.4:
            return ("s", self.random_body(rng, heads, row, depth - 1))
        name, params, result = rng.choice(heads)
        return ("!", name, *[self.random_body(rng, heads, row, depth - 1) for _ in params])


if __name__ == "__main__":
    unittest.main()
