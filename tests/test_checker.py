"""Claims, papers that are accepted and refused, and certificates: [36]."""

import itertools
import random
import unittest

from instances.certificates import (
    certify_case, certify_choice, certify_cover, certify_ending, certify_run, certify_units,
)
from instances.checker import accepts
from instances.covers import cover, witness
from instances.endings import loop, roads
from instances.errors import NoValue, Unformed, Unsound
from instances.labels import label_of
from instances.runs import instances, run
from instances.tables import chosen_use, fault, is_table
from instances.units import needed, unlike
from programs import (
    BOTH, EVER, FULL, GROW, LAST, LESS, ONE, PLUS, PROGRAM, S, SAME, SWAP, TABLE, TWO,
    are_plain_roads, table_of,
)
from samples import (
    INT, NO, SIG, X, Y, YES, ZERO, Hostile, chain, nested, odd_values, plain_named, plain_tree, rows_up_to,
)

COUNT = ("count",)
COUNTS = ("count", "count")
ROUND = (("swap", (ONE, ONE)), ((1, 0),))
SPLIT = ("split", "v1", (("leaf", 0), ("leaf", 1)))
# Two of its cases are dead, and a road of it is closed.
TURN = ("turn", COUNTS, "count", (
    ((ZERO, Y), ("!", "turn", Y, ZERO)), ((S, Y), Y), ((ZERO, ZERO), ZERO), ((X, Y), ZERO), ((ONE, ONE), ZERO),
))
TURNS = table_of(TURN)
UNITS = (table_of(PLUS, SAME, BOTH), (LAST, LESS, ("c", ((0,), (1,), (1, 2)), ())))


def claims():
    """Claims with a paper that is accepted, one or more for each word."""
    all_but_two = ((X, X), (YES, NO), (NO, YES))
    times = ("times", (TWO, ONE))
    return [
        (("covered", SIG, COUNT, (X,), ((ZERO,), (S,))), SPLIT),
        (("covered", SIG, ("truth", "truth"), (X, Y), all_but_two), cover(SIG, ("truth", "truth"), (X, Y), all_but_two)),
        (("not covered", SIG, ("type", "type"), (X, Y), ((X, X), (INT, Y))), (("ptr", INT), INT)),
        (("one choice", TABLE, "same"), (("leaf", 0), ((0, 1, ("leaf", 0)),))),
        (("one choice", TABLE, "plus"), (SPLIT, ())),
        (("no choice", TABLE, "both"), ("both", (("ptr", INT), ("ptr", INT)))),
        (("dead", TURNS, "turn", 3), ("split", "v1", (("leaf", 0), ("leaf", 1)))),
        (("chosen", TURNS, "turn", 1), ("turn", (TWO, ONE))),
        (("value", FULL, times, TWO), instances(FULL, times)),
        (("ends", FULL), roads(FULL)),
        (("ends", TURNS), roads(TURNS)),
        (("goes round", table_of(SWAP)), ROUND),
        (("alike", UNITS, 0, 1, "plus"), ()),
        (("alike", UNITS, 0, 2, "same"), certify_units(UNITS, 0, 2, "same")[1]),
        (("unlike", UNITS, 0, 1, "same"), ("same", (INT, INT))),
        (("needed", TABLE, "same", (X, Y), (0, 1)), ()),
        (("label", TABLE, ("plus", (ONE, ZERO)), "4plus1s1z1z"), ()),
    ]


# The claims that exclude one another.
OTHERS = {
    "covered": "not covered", "one choice": "no choice", "dead": "chosen", "ends": "goes round", "alike": "unlike",
}
OTHERS.update({other: word for word, other in OTHERS.items()})


def spoilt(value):
    """The value with one thing in it changed, in many ways."""
    yield None
    if isinstance(value, tuple):
        yield list(value)
        yield (*value, ())
        yield value + value[-1:]
        yield (value,)
        if value:
            yield value[:-1]
            yield value[1:]
            yield value[::-1]
        for at, part in enumerate(value):
            for other in spoilt(part):
                yield (*value[:at], other, *value[at + 1:])
    elif isinstance(value, int):
        yield from (value + 1, value - 1, -1, str(value), bool(value), (value,))
    elif isinstance(value, str):
        yield from (value + "x", value[1:], value.upper(), value.encode(), (value,), "", 0)


def is_same(one, other):
    """Whether they are one and the same, whole numbers and truths told apart."""
    if type(one) is not type(other):
        return False
    if isinstance(one, tuple):
        return len(one) == len(other) and all(is_same(a, b) for a, b in zip(one, other))
    return one == other


class AcceptsTest(unittest.TestCase):
    def yes(self, claim, paper):
        self.assertIs(accepts(claim, paper), True, (claim, paper))

    def no(self, claim, paper):
        self.assertIs(accepts(claim, paper), False, (claim, paper))

    def test_the_documents(self):
        self.yes(("one choice", TABLE, "same"), (("leaf", 0), ((0, 1, ("leaf", 0)),)))
        self.no(("one choice", TABLE, "both"), (("leaf", 0), ()))
        self.yes(("no choice", TABLE, "both"), ("both", (("ptr", INT), ("ptr", INT))))
        self.yes(("value", TABLE, ("plus", (ZERO, ZERO)), ZERO), ((("plus", (ZERO, ZERO)), 0, ZERO),))
        self.yes(("covered", SIG, COUNT, (X,), ((ZERO,), (S,))), SPLIT)

    def test_each_claim_has_its_paper(self):
        for claim, paper in claims():
            self.yes(claim, paper)
        self.assertEqual(len({claim[0] for claim, paper in claims()}), 13)

    def test_whatever_both_are(self):
        values = odd_values() + [nested(58), (nested(57),), SIG, TABLE, PROGRAM, SPLIT, ROUND]
        for claim, paper in claims():
            for value in values:
                if not is_same(value, paper):
                    self.no(claim, value)
                self.no(value, paper)
                self.no((value,), paper)
                self.no((value, *claim[1:]), paper)
                self.no((claim[0], value), paper)
                for at in range(1, len(claim)):
                    other = (*claim[:at], value, *claim[at + 1:])
                    if accepts(other, paper) is not False:
                        # It is another claim that is so, such as one with other units.
                        self.assertTrue(self.is_claim(other), other)
        for one, other in itertools.product(odd_values(), odd_values()):
            self.no(one, other)

    def test_claims_of_other_words_and_lengths(self):
        for claim, paper in claims():
            for other in ("", "Covered", "covered ", "cover", "no", claim[0].encode(), (claim[0],), claim[0].upper(), None, 0):
                self.no((other, *claim[1:]), paper)
            for other, _ in claims():
                if len(other) != len(claim) or other[0] != claim[0]:
                    self.no((other[0], *claim[1:]), paper)
            self.no(claim[:-1], paper)
            self.no((*claim, ()), paper)
            self.no((*claim, claim[-1]), paper)
            self.no(list(claim), paper)
            self.no(claim[0], paper)
            self.no((claim,), paper)
            self.no((claim, paper), paper)

    def test_papers_spoilt_in_one_place(self):
        for claim, paper in claims():
            many = 0
            for other in spoilt(paper):
                if is_same(other, paper):
                    continue
                many += 1
                if accepts(claim, other):
                    self.assertTrue(self.is_right_all_the_same(claim, other), (claim, other))
            self.assertGreater(many, 3)

    def is_right_all_the_same(self, claim, paper):
        """Whether it is another paper that is right: a use or terms of which there are others."""
        word = claim[0]
        if word == "not covered":
            return paper[0] != paper[1] and paper[0] != INT
        if word == "chosen":
            return paper in [("turn", (TWO, term)) for term in (ONE, chain(3, ZERO), ZERO)] + [("turn", (chain(3, ZERO), ONE))] or (
                paper[0] == "turn" and paper[1][0][0] == "s"
            )
        if word == "unlike":
            return paper[1][0] == paper[1][1]
        if word == "ends":
            return are_plain_roads(claim[1], paper)
        if word == "covered":
            return plain_tree(*claim[1:], paper)
        if word == "goes round":
            return set(paper[1]) == {(1, 0)} and paper[0] == ROUND[0]
        return False

    def test_claims_spoilt_in_one_place(self):
        for claim, paper in claims():
            for other in spoilt(claim[1:]):
                if not is_same(other, claim[1:]) and isinstance(other, tuple) and accepts((claim[0], *other), paper):
                    # Such are the names of what is not asked for, a longer signature, or more rows.
                    self.assertTrue(self.is_claim((claim[0], *other)), (claim, other))

    def is_claim(self, claim):
        """Whether the tables, names and numbers in it are right, as the functions take them."""
        word = claim[0]
        calls = {
            "covered": lambda: certify_cover(*claim[1:]), "not covered": lambda: certify_cover(*claim[1:]),
            "one choice": lambda: certify_choice(*claim[1:]), "no choice": lambda: certify_choice(*claim[1:]),
            "dead": lambda: certify_case(*claim[1:]), "chosen": lambda: certify_case(*claim[1:]),
            "value": lambda: certify_run(*claim[1:3]), "ends": lambda: certify_ending(*claim[1:]),
            "goes round": lambda: certify_ending(*claim[1:]), "alike": lambda: certify_units(*claim[1:]),
            "unlike": lambda: certify_units(*claim[1:]),
        }
        if word == "needed":
            return is_same(needed(*claim[1:4]), claim[4])
        if word == "label":
            return is_same(label_of(*claim[1:3]), claim[3])
        told = calls[word]()
        return is_same(told[0], claim)

    def test_papers_of_the_claim_that_excludes(self):
        for claim, paper in claims():
            if claim[0] in OTHERS:
                other = (OTHERS[claim[0]], *claim[1:])
                for value in [paper] + [paper for claim, paper in claims()] + odd_values():
                    self.no(other, value)

    def test_covered(self):
        self.no(("covered", SIG, COUNT, (X,), ((ZERO,), (S,))), ("leaf", 0))
        self.no(("covered", SIG, COUNT, (X,), ((ZERO,), (S,))), ("split", "x", (("leaf", 0), ("leaf", 1))))
        self.no(("covered", SIG, ["count"], (X,), ((ZERO,), (S,))), SPLIT)
        self.no(("covered", SIG, COUNT, (X,), [(ZERO,), (S,)]), SPLIT)
        self.no(("covered", SIG, COUNT, (X,), ((ZERO,), (S,), (Y, X))), SPLIT)
        self.yes(("covered", SIG, COUNT, (X,), ((ZERO,), (S,), (X,))), ("leaf", 2))
        many = ((ZERO,),) * 39
        self.yes(("covered", SIG, COUNT, (X,), (*many, (X,))), ("leaf", 39))
        self.no(("covered", SIG, COUNT, (X,), (*many, (ZERO,), (X,))), ("leaf", 40))
        self.no(("not covered", SIG, COUNT, (X,), (*many, (ZERO,), (ZERO,))), (ONE,))
        self.yes(("not covered", SIG, COUNT, (X,), (*many, (ZERO,))), (ONE,))
        self.no(("not covered", SIG, COUNT, (S,), ((ONE,),)), (ZERO,))
        self.no(("not covered", SIG, COUNT, (S,), ((ONE,),)), (ONE,))
        self.no(("not covered", SIG, COUNT, (S,), ((ONE,),)), (X,))
        self.no(("not covered", SIG, COUNT, (S,), ((ONE,),)), TWO)
        self.yes(("not covered", SIG, COUNT, (S,), ((ONE,),)), (TWO,))

    def test_one_choice_wants_all_triples_ascending(self):
        rows = ((X, Y), (ZERO, Y), (X, ZERO), (ZERO, ZERO))
        table = table_of(("f", COUNTS, "truth", tuple((row, NO) for row in rows)))
        (word, *more), (tree, trees) = certify_choice(table, "f")
        self.assertEqual(word, "one choice")
        self.assertEqual([told[:2] for told in trees], [(0, 1), (0, 2), (0, 3), (1, 2), (1, 3), (2, 3)])
        claim = ("one choice", table, "f")
        self.yes(claim, (tree, trees))
        # The rows of each are the cases that are as special as both.
        self.assertEqual(trees[3], (1, 2, ("leaf", 0)))
        for at in range(6):
            self.no(claim, (tree, trees[:at] + trees[at + 1:]))
            self.no(claim, (tree, trees[:at] + trees[at:at + 1] + trees[at:]))
            index, later, below = trees[at]
            self.no(claim, (tree, trees[:at] + ((later, index, below),) + trees[at + 1:]))
            self.no(claim, (tree, trees[:at] + ((index, later, ("leaf", 9)),) + trees[at + 1:]))
            self.no(claim, (tree, trees[:at] + ([index, later, below],) + trees[at + 1:]))
        self.no(claim, (tree, trees[::-1]))
        self.no(claim, (tree, list(trees)))
        self.no(claim, (trees, tree))
        self.no(claim, (tree, (*trees, (3, 4, ("leaf", 0)))))

    def test_no_choice(self):
        claim = ("no choice", TABLE, "both")
        self.yes(claim, ("both", (("ptr", ("#", "type", 1)), ("ptr", INT))))
        self.no(claim, ("both", (("ptr", INT), INT)))
        self.no(claim, ("same", (INT, INT)))
        self.no(("no choice", TABLE, "plus"), ("both", (("ptr", INT), ("ptr", INT))))
        self.yes(("no choice", table_of(("f", COUNT, "count", ())), "f"), ("f", (ZERO,)))
        self.no(("one choice", table_of(("f", COUNT, "count", ())), "f"), (("leaf", 0), ()))

    def test_uses_of_the_very_definition(self):
        rows = (((X, Y), NO), ((X, X), YES), ((ZERO, Y), NO))
        table = table_of(("f", COUNTS, "truth", rows), ("g", COUNTS, "truth", rows))
        program = (table, (("u", ((0, 1, 2),) * 2, ()), ("v", ((0,),) * 2, ())))
        for claim, args in (
            (("no choice", table, "f"), (ZERO, ZERO)), (("chosen", table, "f", 1), (ONE, ONE)), (("unlike", program, 0, 1, "f"), (ONE, ONE)),
        ):
            self.yes(claim, ("f", args))
            self.no(claim, ("g", args))
            self.no((*claim[:-1], 0) if claim[0] == "chosen" else (*claim[:-1], "g"), ("f", args))

    def test_values(self):
        use = ("times", (ONE, TWO))
        found = instances(FULL, use)
        claim = ("value", FULL, use, TWO)
        self.assertEqual(len(found), 5)
        rights = 0
        for order in itertools.permutations(found):
            stood = []
            is_right = True
            for told in order:
                is_right = is_right and all(other in stood for other in self.used_by(told))
                stood.append(told[0])
            self.assertIs(accepts(claim, order), is_right, order)
            rights += is_right
        self.assertGreater(rights, 1)
        for at in range(len(found)):
            self.no(claim, found[:at] + found[at + 1:])
            self.no(claim, found[:at] + found[at:at + 1] + found[at:])
        self.no(claim, (*found, (("plus", (ZERO, ONE)), 0, ONE)))
        self.no(claim, ((("plus", (ZERO, ONE)), 0, ONE), *found))
        for other in (ZERO, ONE, chain(3, ZERO), YES, X, ("s", X), None, 2, "two"):
            self.no(("value", FULL, use, other), found)

        # The last one stands behind all others, so nothing tells that it is lacking but their number.
        self.no(claim, found[:-1] + found[:1])
        self.no(claim, found[:1] + found[:-1])

    def used_by(self, told):
        """The uses that the body of an instance of times and plus comes to."""
        (name, (one, other)), case, value = told
        if case == 0:
            return []
        if name == "plus":
            return [("plus", (one[1], other))]
        within = run(FULL, ("times", (one[1], other)))[1]
        return [("times", (one[1], other)), ("plus", (other, within))]

    def test_runs_without_a_value(self):
        for table, use in (
            (TABLE, ("both", (("ptr", INT), ("ptr", INT)))), (table_of(EVER), ("ever", (ZERO,))),
            (TABLE, ("plus", (chain(30, ZERO), chain(30, ZERO)))),
        ):
            for value in (ZERO, YES, NO, chain(60, ZERO), None):
                for paper in ((), ((use, 0, value),), None):
                    self.no(("value", table, use, value), paper)

    def test_ends(self):
        trees = roads(TURNS)
        self.yes(("ends", TURNS), trees)
        [tree] = trees
        self.assertEqual([told[0] for told in tree], ["open", "open", "open", "closed", "open"])
        [(place, below)] = tree[0][1]
        self.assertEqual([told[0] for told in below], ["closed", "open", "closed", "closed", "no"])
        # Another tree of cases does as well, but a road that is closed is told closed, and no other one.
        other = ("closed", ("split", "v1", (("leaf", 0), ("leaf", 1))))
        self.yes(("ends", TURNS), ((*tree[:3], other, tree[4]),))
        for at, told in ((0, ("no",)), (0, ("open", ())), (0, ("closed", ("leaf", 0))), (1, ("no",)), (1, ("closed", ("leaf", 0))), (3, ("open", ())),
                         (3, ("no",)), (4, ("no",)), (4, ("closed", ("leaf", 0))), (0, ("open", ((0, below), (1, below)))), (0, ("open", ((1, below),))),
                         (0, ("open", ((False, below),))), (0, ("open", (0, below))), (0, ("open", ((0, below, ()),))), (0, ("open", ((0,),))), (1, ("open", ((0, below),))), (1, ("open",)),
                         (3, ("closed",)), (4, ("open", (), ()))):
            self.no(("ends", TURNS), ((*tree[:at], told, *tree[at + 1:]),))
        for at, told in ((4, ("open", ())), (4, ("closed", ("leaf", 0))), (0, ("no",)), (0, ("open", ())), (0, ("open", ((0, below),))),
                         (1, ("no",)), (1, ("closed", ("leaf", 0)))):
            self.no(("ends", TURNS), ((("open", ((0, (*below[:at], told, *below[at + 1:])),)), *tree[1:]),))
        self.no(("ends", TURNS), trees + trees)
        self.no(("ends", TURNS), tree)
        self.no(("ends", TURNS), ())
        self.yes(("ends", table_of()), ())

    def test_endings_of_tables_that_are_not_sound_or_not_formed(self):
        rows = (((S, Y), ("!", "f", Y, S)), ((ZERO, ZERO), ZERO))
        unsound = table_of(("f", COUNTS, "count", rows))
        self.no(("goes round", unsound), (("f", (ONE, ONE)), ((0, 0),)))
        unformed = table_of(SWAP, GROW)
        self.no(("goes round", unformed), ROUND)
        self.no(("ends", unformed), roads(FULL))
        flat = (("open", ()), ("open", ()))
        self.no(("ends", table_of(GROW)), (flat,))
        self.no(("ends", table_of(BOTH)), ((("open", ()),) * 3,))
        self.no(("ends", table_of(SWAP)), ((("open", ()),) * 3,))
        self.no(("ends", table_of(EVER)), ((("open", ((0, (("open", ()),)),)),),))

    def test_a_road_that_comes_round_has_no_end(self):
        paper = (("open", ()),)
        for _ in range(12):
            paper = (("open", ((0, paper),)),)
            self.no(("ends", table_of(EVER)), (paper,))

    def test_alike_wants_all_triples(self):
        rows = ((X, Y), (ZERO, Y), (X, ZERO), (ZERO, ZERO))
        table = table_of(("f", COUNTS, "truth", tuple((row, NO) for row in rows)))
        program = (table, (("u", ((0, 1, 3),), ()), ("v", ((0, 1, 2, 3),), ()), ("w", ((0, 1, 3),), ())))
        claim, paper = certify_units(program, 0, 2, "f")
        self.assertEqual(claim, ("alike", program, 0, 2, "f"))
        self.assertEqual([told[:2] for told in paper], [(0, 1), (0, 3), (1, 0), (1, 3), (3, 0), (3, 1)])
        self.yes(claim, paper)
        for at in range(6):
            self.no(claim, paper[:at] + paper[at + 1:])
        self.no(claim, paper[::-1])
        self.no(claim, ())
        self.assertEqual(certify_units(program, 0, 1, "f")[0][0], "unlike")
        for numbers in ((0, 3), (3, 0), (-1, 2), (False, 2), (0, True), ("0", 2), (0, None)):
            self.no(("alike", program, *numbers, "f"), paper)
        # A unit is alike to itself.
        claim, paper = certify_units(program, 1, 1, "f")
        self.assertEqual((claim[0], len(paper)), ("alike", 12))
        self.yes(claim, paper)

    def test_unlike(self):
        claim = ("unlike", UNITS, 0, 1, "same")
        self.yes(claim, ("same", (("#", "type", 7), ("#", "type", 7))))
        self.yes(("unlike", UNITS, 1, 0, "same"), ("same", (INT, INT)))
        self.no(claim, ("same", (INT, ("ptr", INT))))
        self.no(("unlike", UNITS, 0, 0, "same"), ("same", (INT, INT)))
        # One of them has none, or two.
        self.no(("unlike", UNITS, 1, 2, "plus"), ("plus", (ONE, ZERO)))
        self.no(("unlike", UNITS, 1, 2, "both"), ("both", (("ptr", INT), ("ptr", INT))))
        self.yes(("unlike", UNITS, 1, 2, "same"), ("same", (INT, INT)))

    def test_needed_and_labels_have_the_paper_of_nothing(self):
        needs = ("needed", TABLE, "same", (X, Y), (0, 1))
        label = ("label", TABLE, ("plus", (ONE, ZERO)), "4plus1s1z1z")
        for claim in (needs, label):
            self.yes(claim, ())
            for paper in ([], "", None, 0, False, ((),), {}, frozenset(), Hostile(), ("leaf", 0)):
                self.no(claim, paper)
        for cases in ((0,), (1,), (1, 0), (0, 1, 1), [0, 1], (False, 1), (0, True), (False, True), None, (), "01", Hostile(), (Hostile(), 1)):
            self.no(("needed", TABLE, "same", (X, Y), cases), ())
        self.yes(("needed", TABLE, "both", (("ptr", X), ("ptr", Y)), ()), ())
        self.no(("needed", TABLE, "same", (X,), (0, 1)), ())
        for text in ("", "4plus1s1z1", "4plus1s1z1z1", "4plus1z1s1z", b"4plus1s1z1z", None, Hostile(), ("4plus1s1z1z",)):
            self.no(("label", TABLE, ("plus", (ONE, ZERO)), text), ())
        big = ("same", (INT, ("#", "type", 10 ** 30)))
        self.yes(("label", TABLE, big, label_of(TABLE, big)), ())

    def test_deep_uses(self):
        deep = ("plus", (chain(350, ZERO), ZERO))
        self.yes(("label", TABLE, deep, "4plus" + "1s" * 350 + "1z1z"), ())
        self.yes(("not covered", SIG, COUNT, (X,), ((ZERO,),)), (chain(350, ZERO),))
        self.yes(("chosen", TABLE, "plus", 1), deep)
        self.no(("value", TABLE, deep, ZERO), ())


class CertificatesTest(unittest.TestCase):
    def told(self, certificate):
        """The claim's word; the paper is accepted, and for the claim that excludes it no paper."""
        self.assertIsInstance(certificate, tuple)
        claim, paper = certificate
        self.assertIs(accepts(claim, paper), True, certificate)
        if claim[0] in OTHERS:
            self.assertIs(accepts((OTHERS[claim[0]], *claim[1:]), paper), False)
        return claim[0]

    def test_the_documents(self):
        self.assertEqual([certify_choice(TABLE, name)[0][0] for name in ("plus", "same", "both")], ["one choice", "one choice", "no choice"])
        self.assertEqual([
            certify_ending(FULL)[0][0], certify_ending(table_of(SWAP))[0][0], certify_case(TABLE, "same", 0)[0][0],
            certify_units(PROGRAM, 0, 1, "same")[0][0], certify_run(TABLE, ("plus", (ZERO, ZERO)))[0][3],
        ], ["ends", "goes round", "chosen", "unlike", ZERO])

    def test_cover(self):
        pools = [((ZERO,), (S,)), ((ZERO,),), ((X,),), ((ZERO,), (ONE,), (("s", S),)), ()]
        for rows in pools:
            certificate = certify_cover(SIG, COUNT, (X,), rows)
            told = self.told(certificate)
            self.assertEqual(certificate[0][1:], (SIG, COUNT, (X,), rows))
            self.assertEqual(told == "covered", cover(SIG, COUNT, (X,), rows) is not None)
            self.assertEqual(told == "not covered", witness(SIG, COUNT, (X,), rows) is not None)

    def test_case(self):
        for case in range(5):
            certificate = certify_case(TURNS, "turn", case)
            self.assertEqual(self.told(certificate), "dead" if chosen_use(TURNS, "turn", case) is None else "chosen")
            self.assertEqual(certificate[0][1:], (TURNS, "turn", case))

    def test_run(self):
        for table, use in ((FULL, ("times", (TWO, TWO))), (FULL, ("odd", (chain(7, ZERO),))), (TABLE, ("same", (INT, INT)))):
            claim, paper = certify_run(table, use)
            self.assertEqual(self.told((claim, paper)), "value")
            self.assertEqual((claim, paper), (("value", table, use, run(table, use)[1]), instances(table, use)))
        double = ("both", (("ptr", INT), ("ptr", INT)))
        for table, use, answer in (
            (TABLE, double, ("two", double)), (table_of(EVER), ("ever", (ONE,)), ("round", ("ever", (ONE,)))),
            (TABLE, ("plus", (chain(41, ZERO), ZERO)), ("great",)), (table_of(("f", COUNT, "count", ())), ("f", (ZERO,)), ("none", ("f", (ZERO,)))),
        ):
            with self.assertRaises(NoValue) as raised:
                certify_run(table, use)
            self.assertEqual(raised.exception.given, answer)

    def test_ending(self):
        for table, word in ((FULL, "ends"), (TURNS, "ends"), (table_of(SWAP), "goes round"), (table_of(EVER), "goes round"), (table_of(), "ends")):
            claim, paper = certify_ending(table)
            self.assertEqual(self.told((claim, paper)), word)
            self.assertEqual(claim, (word, table))
            self.assertEqual(word == "ends", loop(table) is None)
        for table, error, name in ((table_of(SWAP, GROW), Unformed, "grow"), (table_of(BOTH, GROW), Unformed, "grow"), (table_of(SWAP, BOTH), Unsound, "both")):
            with self.assertRaises(error) as raised:
                certify_ending(table)
            self.assertEqual(raised.exception.given, name)

    def test_units(self):
        for one in range(3):
            for other in range(3):
                for name in ("plus", "same", "both"):
                    certificate = certify_units(UNITS, one, other, name)
                    told = self.told(certificate)
                    self.assertEqual(certificate[0][1:], (UNITS, one, other, name))
                    self.assertEqual(told == "alike", unlike(UNITS, one, other, name) is None)

    def test_random_definitions_and_units(self):
        rng = random.Random(36)
        pools = rows_up_to(SIG, ("count", "type"), 2, (("x", "count"), ("y", "type")))
        words = {}
        for _ in range(120):
            rows = [(X, Y)] if rng.random() < 0.7 else []
            for row in rng.sample(pools, rng.randint(1, 5)):
                if plain_named(row) not in [plain_named(other) for other in rows]:
                    rows.append(row)
            table = table_of(("f", ("count", "type"), "truth", tuple((row, NO) for row in rows)))
            self.assertIs(is_table(table), True)
            units = tuple((f"u{at}", (tuple(case for case in range(len(rows)) if rng.random() < 0.7),), ()) for at in range(2))
            certificates = [certify_choice(table, "f"), certify_units((table, units), 0, 1, "f")]
            certificates += [certify_case(table, "f", case) for case in range(len(rows))]
            certificates.append(certify_cover(SIG, ("count", "type"), rng.choice(pools), tuple(rows)))
            for certificate in certificates:
                told = self.told(certificate)
                words[told] = words.get(told, 0) + 1
            self.assertEqual(certificates[0][0][0] == "one choice", fault(table, "f") is None)
        for word in ("one choice", "no choice", "alike", "unlike", "dead", "chosen", "covered", "not covered"):
            self.assertGreater(words[word], 5, words)


if __name__ == "__main__":
    unittest.main()
