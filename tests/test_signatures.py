"""Signatures, small kinds and terms by size: [4], [7], [8], [9]."""

import copy
import itertools
import unittest

from instances.errors import InvalidKind, InvalidNumber, InvalidSignature
from instances.signatures import is_signature, is_small, terms
from samples import KINDS, MAKERS, SIG, TREES, odd_values, makers_of, size_of, terms_up_to

ONE = ((("a", "closed"),), (("m", (), "a"),))
OPEN_ONE = ((("a", "open"),), ())
NAMES = ["a", "b1", "c_", "d23456789012", "e", "f", "g", "h"]
EIGHT = (
    tuple((name, "open" if name == "e" else "closed") for name in NAMES),
    tuple((f"m{at}_{low}", tuple(NAMES[:low]), name) for at, name in enumerate(NAMES) for low in range(3)),
)


def with_kind(name):
    return (((name, "closed"),), (("m", (), name),))


def with_maker(name):
    return ((("a", "closed"),), ((name, (), "a"),))


class IsSignatureTest(unittest.TestCase):
    def test_right_ones(self):
        for value in (SIG, TREES, ONE, OPEN_ONE, EIGHT):
            self.assertIs(is_signature(value), True)
        self.assertEqual((len(EIGHT[0]), len(EIGHT[1])), (8, 24))

    def test_bounds_of_numbers(self):
        self.assertFalse(is_signature(((), ())))
        self.assertFalse(is_signature(((), (("m", (), "a"),))))
        self.assertFalse(is_signature((EIGHT[0] + (("i", "open"),), EIGHT[1])))
        self.assertFalse(is_signature((EIGHT[0], EIGHT[1] + (("more", (), "a"),))))
        for many, right in ((0, True), (1, True), (2, True), (3, True), (4, False)):
            self.assertIs(is_signature((ONE[0], ONE[1] + (("n", ("a",) * many, "a"),))), right)

    def test_names(self):
        right = ["a", "z", "a" * 12, "a_", "a9", "k_0_9", "abcdefghijkl", "open", "closed"]
        wrong = [
            "", "a" * 13, "A", "aB", "_", "_a", "1", "1a", "a b", " a", "a ", "a-b", "a\n", "\na", "#", "?", "!", "(",
            "\u00e9", "a\u00e9", "a\u00b2", "a\u0661", "\uff41", "\ud800", "a\x00", "a.", "a,", b"a", ("a",), ["a"],
            None, True, 1, {"a": "a"},
        ]
        for make in (with_kind, with_maker):
            for name in right:
                self.assertIs(is_signature(make(name)), True, name)
            for name in wrong:
                self.assertIs(is_signature(make(name)), False, name)

    def test_a_kind_and_a_maker_may_have_one_name(self):
        self.assertTrue(is_signature(((("a", "closed"),), (("a", (), "a"),))))

    def test_a_name_twice(self):
        self.assertFalse(is_signature(((("a", "open"), ("a", "open")), ())))
        self.assertFalse(is_signature(((("a", "open"), ("b", "open"), ("a", "closed")), (("m", (), "a"),))))
        self.assertFalse(is_signature((ONE[0], (("m", (), "a"), ("m", (), "a")))))
        self.assertFalse(is_signature((ONE[0], (("m", (), "a"), ("n", (), "a"), ("m", ("a",), "a")))))

    def test_words(self):
        for word in ("Open", "", "opened", "close", None, True, 1, b"open", ("open",), ["open"]):
            self.assertIs(is_signature(((("a", word),), (("m", (), "a"),))), False)

    def test_arguments_and_results_of_no_kind(self):
        for wrong in ("b", "", "A", "aa", None, 0, True, b"a", ("a",), ["a"], {}):
            self.assertIs(is_signature((ONE[0], (("m", (), wrong),) + ONE[1][1:])), False)
            self.assertIs(is_signature((ONE[0], ONE[1] + (("n", (wrong,), "a"),))), False)
            self.assertIs(is_signature((ONE[0], ONE[1] + (("n", ("a", "a", wrong), "a"),))), False)
            self.assertIs(is_signature((ONE[0], ONE[1] + (("n", ("a",), wrong),))), False)

    def test_kinds_without_a_closed_term(self):
        kinds = (("a", "closed"), ("b", "closed"))
        self.assertFalse(is_signature((kinds[:1], ())))
        self.assertFalse(is_signature((kinds[:1], (("m", ("a",), "a"),))))
        self.assertFalse(is_signature((kinds, (("m", ("b",), "a"), ("n", ("a",), "b")))))
        self.assertFalse(is_signature((kinds, (("m", (), "a"), ("n", ("a", "b"), "b")))))
        self.assertFalse(is_signature((kinds, (("n", ("a",), "b"), ("k", ("b",), "a"), ("l", ("b", "a"), "a")))))
        self.assertTrue(is_signature((kinds, (("m", (), "a"), ("n", ("a", "a"), "b")))))
        # An open kind has strangers, though its only maker needs what is never there first.
        self.assertTrue(is_signature(((("a", "open"),), (("m", ("a",), "a"),))))
        self.assertTrue(is_signature(((("a", "closed"), ("b", "open")), (("m", ("b", "b"), "a"),))))

    def test_closed_terms_over_many_steps(self):
        kinds = tuple((name, "closed") for name in NAMES)
        steps = tuple((f"m{at}", (NAMES[at + 1],), NAMES[at]) for at in range(7))
        self.assertFalse(is_signature((kinds, steps)))
        self.assertTrue(is_signature((kinds, steps + (("last", (), "h"),))))
        self.assertTrue(is_signature((kinds, (("last", (), "h"),) + steps)))
        self.assertFalse(is_signature((kinds, steps + (("last", ("a",), "h"),))))

    def test_wrong_forms(self):
        for value in odd_values():
            self.assertIs(is_signature(value), False)
            self.assertIs(is_signature((value, MAKERS)), False)
            self.assertIs(is_signature((KINDS, value)), False)
            self.assertIs(is_signature((KINDS + (value,), MAKERS)), False)
            self.assertIs(is_signature((KINDS, MAKERS + (value,))), False)
            self.assertIs(is_signature((value, value)), False)

    def test_wrong_lengths(self):
        for value in (
            SIG[:1], SIG + ((),), (MAKERS, KINDS), (("ab",), MAKERS), (KINDS, ("abc",)),
            ((("a", "open", "open"),), ()), ((("a",),), ()), (KINDS, (("z", ()),)), (KINDS, MAKERS + (("k", (), "row", 1),)),
            (KINDS, MAKERS + (("k", "row", "row"),)), ("kinds", "makers"),
        ):
            self.assertIs(is_signature(value), False)

    def test_lists_in_place_of_tuples(self):
        self.assertFalse(is_signature(list(SIG)))
        self.assertFalse(is_signature((list(KINDS), MAKERS)))
        self.assertFalse(is_signature((KINDS, list(MAKERS))))
        self.assertFalse(is_signature(((list(KINDS[0]),) + KINDS[1:], MAKERS)))
        self.assertFalse(is_signature((KINDS, (list(MAKERS[0]),) + MAKERS[1:])))
        self.assertFalse(is_signature((KINDS, (("z", [], "count"),) + MAKERS[1:])))
        self.assertFalse(is_signature((KINDS, MAKERS + (("k", ["row"], "row"),))))


class IsSmallTest(unittest.TestCase):
    def test_of_the_sample(self):
        self.assertEqual([is_small(SIG, kind) for kind, _ in KINDS], [False, True, False, False])

    def test_open_kinds_are_great(self):
        self.assertIs(is_small(OPEN_ONE, "a"), False)
        self.assertIs(is_small(((("a", "open"),), (("m", (), "a"),)), "a"), False)

    def test_closed_without_arguments(self):
        self.assertIs(is_small(ONE, "a"), True)

    def test_small_through_several_steps(self):
        kinds = tuple((name, "closed") for name in NAMES)
        steps = tuple((f"m{at}", (NAMES[at + 1],) * 2, NAMES[at]) for at in range(7))
        value = (kinds, steps + (("last", (), "h"), ("other", (), "a")))
        self.assertEqual([is_small(value, name) for name in NAMES], [True] * 8)
        backward = (kinds[::-1], value[1])
        self.assertEqual([is_small(backward, name) for name in NAMES], [True] * 8)

    def test_great_through_several_steps(self):
        kinds = tuple((name, "open" if name == "h" else "closed") for name in NAMES)
        steps = tuple((f"m{at}", (NAMES[at + 1],), NAMES[at]) for at in range(7))
        value = (kinds, steps + (("other", (), "d23456789012"),))
        self.assertEqual([is_small(value, name) for name in NAMES], [False] * 8)

    def test_great_in_one_step_and_in_a_ring(self):
        kinds = tuple((name, "closed") for name in ("a", "b", "c", "d"))
        ground = tuple((f"g{name}", (), name) for name, _ in kinds)
        own = (kinds, ground + (("m", ("a",), "a"), ("n", ("a", "d"), "b")))
        self.assertEqual([is_small(own, name) for name, _ in kinds], [False, False, True, True])
        ring = (kinds, ground + (("m", ("d", "b"), "a"), ("n", ("c",), "b"), ("k", ("a",), "c")))
        self.assertEqual([is_small(ring, name) for name, _ in kinds], [False, False, False, True])

    def test_as_many_terms_as_told(self):
        # A small kind of this many has no terms beyond some depth; a great one goes on.
        for signature in (SIG, TREES):
            for kind, word in signature[0]:
                low = len(terms_up_to(signature, kind, 2, numbers=(1, 2)))
                more = len(terms_up_to(signature, kind, 3, numbers=(1, 2, 3)))
                self.assertIs(is_small(signature, kind), low == more)


class TermsTest(unittest.TestCase):
    def test_each_size_against_plain_listing(self):
        for kind, _ in KINDS:
            found = sorted(terms_up_to(SIG, kind, 8))
            for size in range(1, 9):
                self.assertEqual(terms(SIG, kind, size), tuple(term for term in found if size_of(term) == size))

    def test_each_size_of_trees_against_plain_growing(self):
        grown = {(kind, 0): [] for kind, _ in TREES[0]}
        for size in range(1, 9):
            for kind, _ in TREES[0]:
                grown[kind, size] = []
                for name, needs in makers_of(TREES, kind):
                    for sizes in itertools.product(range(size), repeat=len(needs)):
                        if sum(sizes) == size - 1:
                            parts = [grown[need, part] for need, part in zip(needs, sizes)]
                            grown[kind, size] += [(name, *row) for row in itertools.product(*parts)]
                self.assertEqual(terms(TREES, kind, size), tuple(sorted(grown[kind, size])))
        self.assertTrue(all(grown["tree", size] for size in (2, 5, 6, 8)))

    def test_ascending_each_once(self):
        for signature in (SIG, TREES):
            for kind, _ in signature[0]:
                for size in range(1, 9):
                    found = terms(signature, kind, size)
                    self.assertIsInstance(found, tuple)
                    self.assertTrue(all(one < other for one, other in zip(found, found[1:])))
                    self.assertTrue(all(size_of(term) == size for term in found))
                    self.assertNotIn("#", repr(found))

    def test_none_where_there_are_none(self):
        for size in range(1, 9):
            self.assertEqual(terms(OPEN_ONE, "a", size), ())
            self.assertEqual(terms(TREES, "bare", size), ())
            self.assertEqual(terms(ONE, "a", size), ((("m",),) if size == 1 else ()))
        # An open kind's only maker needs its own kind: there are terms, but none without strangers.
        self.assertEqual(terms(((("a", "open"),), (("m", ("a",), "a"),)), "a", 3), ())

    def test_many_terms_elsewhere_cost_nothing(self):
        wide = (("a", "closed"), ("b", "closed"))
        makers = tuple((f"c{at}", (), "a") for at in range(10)) + tuple((f"t{at}", ("a",) * 3, "a") for at in range(10))
        lone = (("end", (), "b"), ("next", ("b",), "b"))
        self.assertEqual(len(terms((wide, makers + lone), "b", 8)), 1)
        self.assertEqual(len(terms((wide, makers + lone), "a", 4)), 10 ** 4)


class ErrorsOfSignaturesTest(unittest.TestCase):
    def check(self, error, given, call, *arguments, **named):
        with self.assertRaises(error) as raised:
            call(*arguments, **named)
        self.assertIs(raised.exception.given, given)

    def test_wrong_signatures_come_first(self):
        for value in odd_values() + [SIG[:1], list(SIG), (KINDS, MAKERS, ())]:
            self.check(InvalidSignature, value, is_small, value, "count")
            self.check(InvalidSignature, value, is_small, value, None)
            self.check(InvalidSignature, value, terms, value, "count", 1)
            self.check(InvalidSignature, value, terms, value, None, None)
            self.check(InvalidSignature, value, is_small, signature=value, kind="count")
            self.check(InvalidSignature, value, terms, size=0, kind=None, signature=value)

    def test_wrong_kinds_come_second(self):
        no_texts = [value for value in odd_values() if not isinstance(value, str)]
        for value in no_texts + ["kind", "", "COUNT", "count ", "coun", "z", "#", "closed"]:
            self.check(InvalidKind, value, is_small, SIG, value)
            self.check(InvalidKind, value, is_small, kind=value, signature=SIG)
            self.check(InvalidKind, value, terms, SIG, value, 1)
            self.check(InvalidKind, value, terms, SIG, value, None)
            self.check(InvalidKind, value, terms, size=9, kind=value, signature=SIG)

    def test_wrong_sizes_come_last(self):
        for value in (0, 9, -1, 10 ** 40, True, False, None, "1", (1,), [1], b"1", (), {}):
            self.check(InvalidNumber, value, terms, SIG, "count", value)
            self.check(InvalidNumber, value, terms, size=value, kind="count", signature=SIG)

    def test_right_arguments_raise_nothing(self):
        self.assertEqual(terms(signature=SIG, kind="truth", size=1), (("no",), ("yes",)))
        self.assertIs(is_small(signature=SIG, kind="truth"), True)
        self.assertIs(is_signature(value=SIG), True)

    def test_nothing_is_changed_and_equal_calls_are_equal(self):
        for value in ([list(KINDS), MAKERS], (KINDS, [MAKERS]), {"a": [1]}, [[], []]):
            before = copy.deepcopy(value)
            self.assertEqual([is_signature(value), is_signature(value)], [False, False])
            for call in (lambda: is_small(value, ["a"]), lambda: terms(value, ["a"], [1])):
                with self.assertRaises(InvalidSignature):
                    call()
            self.assertEqual(value, before)
        self.assertEqual(terms(SIG, "row", 7), terms(SIG, "row", 7))
        self.assertEqual(SIG, (KINDS, MAKERS))


if __name__ == "__main__":
    unittest.main()
