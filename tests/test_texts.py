"""Texts of programs: read, refused at a row and a word, and shown: [31], [32], [33]."""

import random
import re
import unittest

from instances.errors import InvalidText
from instances.tables import is_table
from instances.texts import read_program, show_program
from instances.units import is_program
from plain_texts import PlainReader
from programs import FULL, PROGRAM, SWAP, TABLE, table_of
from samples import INT, SIG, X, Y, YES, ZERO, chain, odd_values

BASE = """kind a closed
kind o open
make c () a
make d (a) a
make e (o, a) o
make i () o
template f (a) a
case (c) = c
case (d(?x)) = f(?x)
template g (a, o) o
case (?x, ?y) = e(?y, ?x)
case (c, e(?y, ?x)) = g(f(?x), ?y)
unit u
see f (0, 1)
root f(d(c))
root g(c, e(#o 3, c))
unit v
see g (1)"""


def words_of(row):
    """The words of a row, by a regular expression."""
    return re.findall(r"[a-z0-9_]+|[^a-z0-9_ ]", row)


def refusal(text):
    """Where the text is refused; None if it is read."""
    try:
        program = read_program(text)
    except InvalidText as error:
        return error.index
    assert is_program(program)
    return None


class TextsTest(unittest.TestCase):
    def refused(self, row, word, ahead=BASE):
        """That the row, behind those ahead, is refused at this word, whatever stands behind it in the row or below."""
        at = len(ahead.split("\n")) if ahead else 0
        texts = [ahead + "\n" + row if ahead else row]
        texts.append(texts[0] + "\nkind")
        words = words_of(row)
        if word < len(words):
            texts.append((ahead + "\n" if ahead else "") + " ".join(words[:word + 1]))
            texts.append(texts[0] + " ( c @ ")
        for text in texts:
            self.assertEqual(refusal(text), (at, word), text)
        # What stands ahead of the word may stand there: it is the next word that is lacking, if any.
        for many in range(1, min(word, len(words)) + 1):
            found = refusal((ahead + "\n" if ahead else "") + " ".join(words[:many]))
            self.assertIn(found, (None, (at, many), (at + 1, 0)), (row, many))

    def refused_below(self, ahead, *pairs):
        for row, word in pairs:
            with self.subTest(row=row):
                self.refused(row, word, ahead)

    def taken(self, *rows, ahead=BASE):
        for row in rows:
            self.assertIsNone(refusal(ahead + "\n" + row), row)


class ReadTest(TextsTest):
    def test_the_base(self):
        (signature, definitions), units = read_program(BASE)
        x, y = ("?", "x"), ("?", "y")
        c, d = ("c",), ("d", x)
        self.assertEqual(signature, ((("a", "closed"), ("o", "open")), (
            ("c", (), "a"), ("d", ("a",), "a"), ("e", ("o", "a"), "o"), ("i", (), "o"),
        )))
        self.assertEqual(definitions, (
            ("f", ("a",), "a", (((c,), c), ((d,), ("!", "f", x)))),
            ("g", ("a", "o"), "o", (((x, y), ("e", y, x)), ((c, ("e", y, x)), ("!", "g", ("!", "f", x), y)))),
        ))
        self.assertEqual(units, (
            ("u", ((0, 1), ()), (("f", (("d", c),)), ("g", (c, ("e", ("#", "o", 3), c))))), ("v", ((), (1,)), ()),
        ))

    def test_blanks_stand_anywhere_between_words(self):
        wide = "\n".join("  " + "   ".join(words_of(row)) + " " for row in BASE.split("\n"))
        self.assertEqual(read_program(wide), read_program(BASE))
        tight = []
        for row in BASE.split("\n"):
            text = ""
            for word in words_of(row):
                text += " " + word if text and text[-1] not in "(),=#?" and word not in "(),=#?" else word
            tight.append(text)
        self.assertEqual(read_program("\n".join(tight)), read_program(BASE))
        self.assertEqual(read_program(BASE.replace("#o 3", "#  o   3")), read_program(BASE))
        self.assertEqual(read_program(BASE.replace("?x", "? x")), read_program(BASE))

    def test_blank_rows_count_for_nothing_but_are_counted(self):
        self.assertEqual(read_program(BASE.replace("\n", "\n\n  \n")), read_program(BASE))
        self.assertEqual(read_program("\n\n" + BASE + "\n \n"), read_program(BASE))
        self.assertEqual(refusal("\n \n" + "kind a closed\nmake c () a\n\nmake c () a"), (5, 1))

    def test_rows_in_another_order(self):
        rows = [
            "kind a closed", "unit u", "make c () a", "template f (a) a", "kind o open", "unit v", "case (c) = g(c)", "make i () o",
            "see f (0)", "template g (a) a", "unit w", "case (?x) = ?x", "make d (a) a", "root f(d(c))", "case (d(?x)) = f(?x)",
            "see g (0, 1)",
        ]
        (signature, definitions), units = read_program("\n".join(rows))
        self.assertEqual([name for name, word in signature[0]], ["a", "o"])
        self.assertEqual([name for name, needs, kind in signature[1]], ["c", "i", "d"])
        self.assertEqual([(name, len(cases)) for name, params, result, cases in definitions], [("f", 1), ("g", 2)])
        self.assertEqual(units, (
            ("u", ((), ()), ()), ("v", ((0,), ()), ()), ("w", ((), (0, 1)), (("f", (("d", ("c",)),)),)),
        ))

    def test_what_is_seen_are_cases_told_in_rows_above(self):
        rows = ["kind a closed", "make c () a", "template f (a) a", "unit u", "see f ()", "unit v", "case (c) = c", "see f (0)"]
        self.assertEqual(read_program("\n".join(rows))[1], (("u", ((),), ()), ("v", ((0,),), ())))
        rows[4] = "see f (0)"
        self.assertEqual(refusal("\n".join(rows)), (4, 3))

    def test_numbers_of_twenty_figures(self):
        most = "9" * 20
        self.taken(f"root g(c, #o {most})", "root g(c, #o 1)", "root g(c, # o 7)", f"root g(c, #o 1{'0' * 19})")
        self.assertEqual(read_program(BASE + f"\nroot g(c, #o {most})")[1][1][2][-1], ("g", (("c",), ("#", "o", int(most)))))

    def test_names_of_kinds_makers_and_definitions_are_apart(self):
        text = "kind kind open\nkind open closed\nmake make () open\nmake kind () kind\ntemplate case (kind) open\ncase (?case) = make"
        text += "\nunit open\nsee case (0)\nroot case(kind)\nunit kind"
        self.assertIsNone(refusal(text))

    def test_deep_terms(self):
        deep = "d(" * 300 + "?x" + ")" * 300
        text = BASE.replace("case (c) = c\n", f"case (c) = c\ncase ({deep}) = {deep}\n")
        text += "\nroot f(" + deep.replace("?x", "c") + ")"
        program = read_program(text)
        self.assertEqual(read_program(show_program(program)), program)


class RefusedTest(TextsTest):
    def test_the_documents(self):
        self.assertEqual(refusal("kind a closed\nmake c () b"), (1, 4))
        self.assertEqual(refusal("kind a closed\n\nmake c (a) a"), (3, 0))
        self.assertEqual(refusal("kind a closed\nmake c () a\ntemplate f (a) a\ncase (?x) = g(?x)"), (4, 0))

    def test_no_text(self):
        for value in odd_values():
            if not isinstance(value, str):
                with self.assertRaises(InvalidText) as raised:
                    read_program(value)
                self.assertIsNone(raised.exception.index)

    def test_no_kind_at_all(self):
        for text, row in (("", 0), (" ", 1), ("   ", 1), ("\n", 2), ("\n\n", 3), ("  \n", 2), ("unit u", 1), ("unit u\nunit v\n", 3)):
            self.assertEqual(refusal(text), (row, 0), text)

    def test_first_words(self):
        self.refused_below(
            BASE, ("kinds a open", 0), ("Kind a open", 0), ("f", 0), ("(", 0), ("12", 0), ("?", 0), ("#", 0), ("=", 0), ("choose f(c)", 0),
            ("_", 0), ("\tkind b open", 0), ("\u00e9", 0), ("\r", 0), ("back", 0), ("makee", 0), ("0", 0),
        )

    def test_words_that_are_no_names_or_numbers(self):
        for word in ("_a", "1a", "a" * 13, "12", "0", "A", "(", "=", "\u00e9", "A-b", "\u0660"):
            self.refused_below(BASE, (f"kind {word} open", 1), (f"unit {word}", 1))
        self.refused_below(BASE, ("kind b-c open", 2), ("unit b-c", 2), ("kind b\topen", 2))
        for word in ("00", "01", "007", "1" * 21, "0" * 20, "1_", "-1", "+1", "\u0661"):
            self.refused_below(BASE, (f"root g(c, #o {word})", 7))
            self.refused_below(BASE.replace("see f (0, 1)\n", ""), (f"see f ({word})", 3))
        self.assertIsNone(refusal(BASE + "\nunit " + "a" * 12))

    def test_kind(self):
        self.refused_below(
            BASE, ("kind", 1), ("kind a open", 1), ("kind o", 1), ("kind b", 2), ("kind b opened", 2), ("kind b open open", 3),
            ("kind b closed (", 3), ("kind ( open", 1), ("kind b (", 2), ("kind b 1", 2), ("kind b close", 2), ("kind b, open", 2),
        )
        self.taken("kind b open", "kind c open", "kind f open", "kind open open")
        # A closed kind has no term yet.
        self.assertEqual(refusal(BASE + "\nkind b closed"), (len(BASE.split("\n")) + 1, 0))
        self.taken("kind b closed\nmake m () b")

    def test_make(self):
        self.refused_below(
            BASE, ("make", 1), ("make c", 1), ("make c () a", 1), ("make f () a", 1), ("make b", 2), ("make b a", 2), ("make b (", 3),
            ("make b )", 2), ("make b (b) a", 3), ("make b (a", 4), ("make b (a a) a", 4), ("make b (a,", 5), ("make b (a,) a", 5),
            ("make b (,a) a", 3), ("make b (a, b) a", 5), ("make b (a, a, a, a) a", 8), ("make b (a, a, a,", 8), ("make b ()", 4),
            ("make b () b", 4), ("make b () a a", 5), ("make b (a, a, a)", 9), ("make b (a) (", 5), ("make b (()) a", 3),
            ("make b (c) a", 3), ("make b (1) a", 3), ("make b = a", 2),
        )
        self.taken("make b () a", "make b (a) a", "make b (a, o, a) o", "make a () a", "make u () o")

    def test_template(self):
        self.refused_below(
            BASE, ("template", 1), ("template f (a) a", 1), ("template c (a) a", 1), ("template h", 2), ("template h a", 2),
            ("template h ()", 3), ("template h (", 3), ("template h (b)", 3), ("template h (a", 4), ("template h (a) a a", 6),
            ("template h (a, a, a, a, a) a", 10), ("template h (a, a, a, a,", 10), ("template h (a, ) a", 5), ("template h (a) b", 5),
            ("template h (a)", 5), ("template h (a) f", 5), ("template h (a o) a", 4),
        )
        self.taken("template h (a) a", "template h (a, o, a, o) o", "template a (o) a", "template u (o) a")

    def test_case_patterns(self):
        ahead = BASE + "\ntemplate h (a, o) a"
        self.refused_below(
            ahead, ("case", 1), ("case =", 1), ("case c", 1), ("case (", 2), ("case ()", 2), ("case (c", 3), ("case (c)", 3),
            ("case (c,", 4), ("case (c, i", 5), ("case (c, i)", 6), ("case (c, i,", 5), ("case (c, i, i) = c", 5), ("case (i, c) = c", 2),
            ("case (c, c) = c", 4), ("case (b, i) = c", 2), ("case (f, i) = c", 2), ("case (f(c), i) = c", 2), ("case (d, i) = c", 3),
            ("case (d(), i) = c", 4), ("case (d(c, c), i) = c", 5), ("case (c(), i) = c", 3), ("case (d(i), i) = c", 4),
            ("case (c, e(i, c) = c", 10), ("case (c, e(i) = c", 7), ("case (c, e(c, c)) = c", 6), ("case (#a 1, i) = c", 2),
            ("case (c, #o 1) = c", 4), ("case (c, e(#o 1, c)) = c", 6), ("case (?, i) = c", 3), ("case (?x", 4), ("case (?1, i) = c", 3),
            ("case (?X, i) = c", 3), ("case (??, i) = c", 3), ("case (?x, ?x) = c", 6), ("case (?x, e(i, ?y", 11),
            ("case (?x, e(?x, c)) = c", 8), ("case (?x, e(?y, ?y)) = c", 11), ("case (d(?x), e(i, ?x)) = i", 17), ("case (1, i) = c", 2),
            ("case (c, i) c", 6), ("case (c, i) =", 7), ("case (c, i) = = c", 7), ("case (c, i) (", 6), (f"case (?{'a' * 13}, i) = c", 3),
        )
        self.taken("case (c, i) = c", "case (?c, ?i) = ?c", "case (?x, e(i, ?x)) = ?x", "case (d(d(c)), e(e(?y, c), ?z)) = ?z", ahead=ahead)

    def test_alike_cases_are_refused_at_their_equals_sign(self):
        self.refused_below(
            BASE.split("\nunit")[0], ("case (?p, ?q) = ?q", 8), ("case (?y, ?x) = b", 8), ("case (c, e(?a, ?b)) = i", 13),
            ("case (?p, ?q) ?q", 8), ("case (?p, ?q)", 8),
        )
        text = "kind a open\ntemplate f (a, a) a\ncase (?x, ?y) = ?x\n"
        self.assertEqual(refusal(text + "case (?y, ?x) = ?x"), (3, 8))
        self.assertIsNone(refusal(text + "case (?x, ?x) = ?x"))
        self.assertEqual(refusal(text + "case (?x, ?x) = ?x\ncase (?y, ?y) = ?y"), (4, 8))

    def test_case_bodies(self):
        ahead = BASE + "\ntemplate h (a, o) a"
        start = "case (?x, ?y) = "
        rows = [
            ("?", 10), ("?z", 10), ("?y", 10), ("? (", 10), ("i", 9), ("e(?y, ?x)", 9), ("d", 10), ("d)", 10), ("d(", 11), ("d()", 11),
            ("d(?y)", 12), ("d(?z)", 12), ("d(c", 12), ("d(c,", 12), ("d(c, c)", 12), ("c(", 10), ("c()", 10), ("c c", 10),
            ("g(?x, ?y)", 9), ("f", 10), ("f(", 11), ("f()", 11), ("f(?y)", 12), ("f(?x, ?x)", 13), ("f(i)", 11), ("f(g(?x, ?y))", 11),
            ("#a 1", 9), ("#", 9), ("d(#a 1)", 11), ("f(#a 1)", 11), ("h(?x)", 13), ("h(?x, ?x)", 15), ("h(?x, ?y, ?y)", 16), ("=", 9),
            ("", 9), ("1", 9), ("(c)", 9), ("?x ?x", 11), ("?x)", 11), ("f(?x))", 14), ("d(d(d(i)))", 15), ("h(c, e(?y, ?y))", 19),
            ("d(f(h(?x, g(?x, ?x))))", 24), ("aaaaaaaaaaaaa(c)", 9), ("_b(c)", 9),
        ]
        self.refused_below(ahead, *[(start + body, word) for body, word in rows])
        self.taken(
            start + "?x", start + "c", start + "d(d(?x))", start + "f(f(?x))", start + "h(?x, ?y)", start + "h(f(c), g(?x, e(?y, ?x)))",
            ahead=ahead,
        )

    def test_bodies_with_definitions_that_are_not_told_yet(self):
        ahead = BASE + "\ntemplate h (a, o) a"
        start = "case (?x, ?y) = "
        rows = [
            ("k", 10), ("k c", 10), ("k(", 11), ("k()", 11), ("k(?z)", 12), ("k(?x", 13), ("k(?x, ?y, i, c, c)", 20),
            ("k(?x, ?y, i, c,", 20), ("k(#o 1)", 11), ("k(?x ?y)", 13), ("k(e(?y, ?y))", 17), ("k(d(i))", 13), ("k(d(k(i, e(c", 19),
            ("d(k(?x, l(?y, ?z)))", 22), ("k(f(?y))", 14), ("k(g(?x, l(), i))", 18), ("k(c(", 12), ("k(=)", 11), ("k(1)", 11), ("k(?x,)", 14),
            ("k(d)", 12), ("k(g)", 12), ("k(h(c, i), m)", 19), ("k(?X)", 12),
        ]
        self.refused_below(ahead, *[(start + body, word) for body, word in rows])
        below = len(ahead.split("\n")) + 1
        for body in ("k(?x)", "k(?y, ?x, c, i)", "d(k(l(?x), m(?y)))", "f(k(c))", "k(g(?x, k(c)))", "k(f(l(c)))"):
            self.assertEqual(refusal(ahead + "\n" + start + body), (below, 0), body)
        told = ahead + "\n" + start
        self.assertIsNone(refusal(told + "k(?y)\ntemplate k (o) a"))
        self.assertIsNone(refusal(told + "d(k(l(?x), m(?y)))\ntemplate m (o) o\ntemplate k (a, o) a\ntemplate l (a) a"))
        for text in (
            "k(?y)\ntemplate k (a) a", "k(?y)\ntemplate k (o) o", "k(?y)\ntemplate k (o, o) a", "k(?y, ?x)\ntemplate k (o) a",
            "k(?y)\ntemplate l (o) a", "k(l(?y))\ntemplate k (o) a\ntemplate l (o) a", "k(c)\ntemplate k (o) a",
            "k(?y)\nmake k (o) a", "k(d(l(?x)))\ntemplate k (a) a\ntemplate l (a) o",
        ):
            self.assertEqual(refusal(told + text), (below + text.count("\n"), 0), text)
        # A maker told below changes nothing; then no definition can have the name.
        self.assertEqual(refusal(told + "k(?y)\nmake k (o) a\ntemplate k (o) a"), (below + 1, 1))
        # What is wrong in a row is told ahead of what is wrong with the whole.
        self.assertEqual(refusal(told + "k(?y)\nunit u"), (below, 1))

    def test_unit(self):
        self.refused_below(BASE, ("unit", 1), ("unit u", 1), ("unit v", 1), ("unit w w", 2), ("unit w (", 2), ("unit (", 1))
        self.taken("unit w", "unit f", "unit a")

    def test_see(self):
        self.refused_below(
            BASE, ("see", 1), ("see g (0)", 1), ("see g ()", 1), ("see h (0)", 1), ("see c (0)", 1), ("see u (0)", 1), ("see f", 2),
            ("see f 0", 2), ("see f (", 3), ("see f (2)", 3), ("see f (f)", 3), ("see f (0", 4), ("see f (0,", 5), ("see f (0, 0)", 5),
            ("see f (0, 2)", 5), ("see f (0, )", 5), ("see f (1,", 4), ("see f (1, 1)", 4), ("see f (0, 1, 2)", 6), ("see f (0, 1,", 6),
            ("see f (0) 1", 5), ("see f ())", 4), ("see f (,0)", 3), ("see f (0 1)", 4), ("see f (?x)", 3), ("see 0 (0)", 1),
        )
        self.taken("see f (0)", "see f ()", "see f (1)", "see f (0, 1)", "unit w\nsee g (0, 1)\nsee f (0)")
        # An empty one is one, too.
        self.assertEqual(refusal(BASE + "\nsee f ()\nsee f (0)"), (len(BASE.split("\n")) + 1, 1))
        text = "kind a open\ntemplate f (a) a\nunit u\n"
        self.assertEqual(refusal(text + "see f (0)"), (3, 3))
        self.assertIsNone(refusal(text + "see f ()"))

    def test_root(self):
        self.refused_below(
            BASE, ("root", 1), ("root c", 1), ("root h(c)", 1), ("root f", 2), ("root f c", 2), ("root f(", 3), ("root f()", 3),
            ("root f(c", 4), ("root f(c,", 4), ("root f(c, c)", 4), ("root f(c) c", 5), ("root f(?x)", 3), ("root f(d(?x))", 5),
            ("root f(i)", 3), ("root f(f(c))", 3), ("root f(#a 1)", 3), ("root g(c, c)", 5), ("root g(c)", 4), ("root g(c, #", 6),
            ("root g(c, #a 1)", 6), ("root g(c, #p 1)", 6), ("root g(c, #o)", 7), ("root g(c, #o 0)", 7), ("root g(c, #o 1", 8),
            ("root g(c, #o 1 1)", 8), ("root g(c, #o1)", 6), ("root g(c, #1 1)", 6), ("root g(c, # # 1)", 6), ("root g(c, #o x)", 7),
            ("root g(c, e(#o 1, #o 1))", 11), ("root g(c, e(#o 1, #a 1))", 11), ("root g(c, i())", 6), ("root (c)", 1), ("root 1", 1),
            ("root g(c, e(i, c)", 11), ("root g(c, e(i, c)))", 12), ("root g(d, i)", 4), ("root g(c, #o,", 7),
        )
        self.taken("root f(c)", "root g(d(c), #o 5)", "root g(c, e(e(#o 1, c), d(c)))")

    def test_rows_that_want_one_above(self):
        self.refused_below("kind a open\nmake c () a", ("case (c) = c", 0), ("see f (0)", 0), ("root f(c)", 0), ("case", 0), ("see", 0), ("root", 0))
        self.refused_below("kind a open\nunit u", ("case (c) = c", 0))
        self.refused_below("kind a open\ntemplate f (a) a\ncase (?x) = ?x", ("see f (0)", 0), ("root f(#a 1)", 0))
        # Below its name, a definition has no cases, so it may be named at once.
        self.assertIsNone(refusal("kind a open\ntemplate f (a) a\ncase (?x) = f(?x)"))

    def test_what_is_named_has_been_told_above(self):
        self.refused_below("kind a open", ("make c () b", 4), ("make c (b) a", 3), ("template f (b) a", 3), ("template f (a) b", 5))
        ahead = "kind a closed\nmake c () a\ntemplate f (a) a"
        self.refused_below(ahead, ("case (d) = c", 2))
        self.assertEqual(refusal(ahead + "\ncase (d(c)) = c\nmake d (a) a"), (3, 2))
        self.assertEqual(refusal(ahead + "\nunit u\nroot h(c)\ntemplate h (a) a"), (4, 1))

    def test_one_too_many_of_each_sort(self):
        kinds = "\n".join(f"kind k{at} open" for at in range(8))
        self.assertIsNone(refusal(kinds))
        self.refused_below(kinds, ("kind k8 open", 0), ("kind", 0), ("kind k0 open", 0))
        makers = "kind a open\n" + "\n".join(f"make m{at} (a) a" for at in range(24))
        self.assertIsNone(refusal(makers))
        self.refused_below(makers, ("make m24 () a", 0), ("make", 0), ("make m0 () a", 0))
        templates = "kind a open\n" + "\n".join(f"template f{at} (a) a" for at in range(12))
        self.assertIsNone(refusal(templates))
        self.refused_below(templates, ("template f12 (a) a", 0), ("template", 0))
        cases = "kind a closed\nmake c () a\nmake d (a) a\ntemplate e (a) a\ntemplate f (a) a"
        for at in range(10):
            cases += "\ncase (" + "d(" * at + "c" + ")" * at + ") = c"
        self.assertIsNone(refusal(cases))
        self.refused_below(cases, ("case (?x) = c", 0), ("case", 0))
        self.assertIsNone(refusal(cases + "\ntemplate g (a) a\ncase (c) = c"))
        units = BASE.split("\nunit")[0] + "".join(f"\nunit u{at}" for at in range(6))
        self.assertIsNone(refusal(units))
        self.refused_below(units, ("unit u6", 0), ("unit", 0))
        roots = units + "\nroot f(c)" * 10
        self.assertIsNone(refusal(roots))
        self.refused_below(roots, ("root f(c)", 0), ("root", 0), ("root h(c)", 0))
        self.assertIsNone(refusal(BASE + "\nunit w" + "\nroot f(c)" * 10 + "\nunit x\nroot f(c)"))

    def test_the_whole(self):
        self.assertEqual(refusal("kind a closed"), (1, 0))
        self.assertEqual(refusal("kind a closed\nmake c (a) a"), (2, 0))
        self.assertEqual(refusal("kind a closed\nkind b closed\nmake c (b) a\nmake d (a) b"), (4, 0))
        self.assertIsNone(refusal("kind a closed\nkind b closed\nmake c (b) a\nmake d () b"))
        self.assertIsNone(refusal("kind a closed\nkind b open\nmake c (b) a"))
        self.assertEqual(refusal("kind a closed\n\n \n"), (4, 0))

    def test_words_ahead_of_a_refused_one_are_refused_nowhere(self):
        rng = random.Random(32)
        rows = BASE.split("\n")
        others = ["(", ")", ",", "=", "#", "?", "a", "c", "f", "o", "x", "0", "1", "@", "kind", "open", "g", "e", "z", "u"]
        places = set()
        for _ in range(3000):
            at = rng.randrange(len(rows))
            words = words_of(rows[at])
            spot = rng.randrange(len(words) + 1)
            way = rng.choice(("put", "leave", "change"))
            if way == "put":
                words.insert(spot, rng.choice(others))
            elif spot < len(words):
                words[spot:spot + 1] = [rng.choice(others)] if way == "change" else []
            ahead = "\n".join(rows[:at])
            found = refusal((ahead + "\n" if ahead else "") + " ".join(words))
            if found is None or found == (at + 1, 0):
                continue
            row, word = found
            self.assertEqual(row, at, words)
            self.assertLessEqual(word, len(words))
            places.add(word)
            for many in range(len(words) + 1):
                again = refusal((ahead + "\n" if ahead else "") + " ".join(words[:many]))
                if many > word:
                    self.assertEqual(again, found)
                elif many > 0:
                    self.assertIn(again, (None, (at, many), (at + 1, 0)))
            self.assertEqual(refusal((ahead + "\n" if ahead else "") + " ".join(words + ["@", "("]))[1] <= word, True)
        self.assertGreater(len(places), 10)


class PlainReaderTest(unittest.TestCase):
    """The reader beside a plain one."""

    OTHERS = (
        "(", ")", ",", "=", "#", "?", "a", "c", "d", "e", "f", "g", "i", "o", "x", "y", "k", "l", "0", "1", "2", "00", "@", "kind", "make",
        "template", "case", "unit", "see", "root", "open", "closed", "u", "v", "z",
    )

    def same(self, text):
        plain = PlainReader(text)
        self.assertEqual(refusal(text), plain.answer, text)
        if plain.answer is None:
            self.assertEqual(read_program(text), plain.program())
        return plain.answer

    def changed(self, rng, rows):
        """The rows with a word or a row changed."""
        rows = list(rows)
        at = rng.randrange(len(rows))
        words = words_of(rows[at])
        way = rng.randrange(8)
        if way < 3 and words:
            words[rng.randrange(len(words))] = rng.choice(self.OTHERS)
        elif way == 3:
            words.insert(rng.randrange(len(words) + 1), rng.choice(self.OTHERS))
        elif way == 4 and words:
            del words[rng.randrange(len(words))]
        elif way == 5:
            words = words[:rng.randrange(len(words) + 1)]
        elif way == 6:
            rows.insert(rng.randrange(len(rows)), rng.choice(rows))
        else:
            other = rng.randrange(len(rows))
            rows[at], rows[other] = rows[other], rows[at]
            return rows
        rows[at] = " ".join(words)
        return rows

    def test_texts_with_a_word_or_a_row_changed(self):
        rng = random.Random(31)
        more = [
            "template h (a, o) a", "case (?x, e(?y, c)) = d(k(?x, l(?y), e(?y, f(?x))))", "case (?x, ?y) = f(h(d(?x), ?y))",
            "template k (a, o, o) a", "case (?x, ?y, ?z) = ?x", "template l (o) o", "case (?y) = ?y", "root h(d(d(c)), e(#o 12, c))",
            "see h (0, 1)", "see k ()",
        ]
        start = BASE.split("\n") + more
        self.assertIsNone(self.same("\n".join(start)))
        refused = {}
        for _ in range(3000):
            rows = self.changed(rng, start)
            if rng.random() < 0.3:
                rows = self.changed(rng, rows)
            answer = self.same("\n".join(rows))
            word = "read" if answer is None else "whole" if answer[0] == len(rows) else answer[1]
            refused[word] = refused.get(word, 0) + 1
        self.assertGreater(len(refused), 20)
        self.assertGreater(min(refused["read"], refused["whole"], refused[0], refused[3]), 10)

    def test_rows_of_random_words(self):
        rng = random.Random(32)
        for word in ("kind", "make", "template", "case", "unit", "see", "root"):
            for _ in range(40):
                words = [word]
                # Word by word, mostly such as may stand there.
                while len(words) < 25:
                    ahead = BASE + "\n" + " ".join(words)
                    if self.same(ahead) in (None, (len(BASE.split("\n")) + 1, 0)) and rng.random() < 0.5:
                        break
                    picked = rng.sample(self.OTHERS, len(self.OTHERS))
                    rights = [other for other in picked[:12] if self.same(ahead + " " + other) != (len(BASE.split("\n")), len(words))]
                    words.append(rights[0] if rights and rng.random() < 0.95 else picked[0])
                    if not rights:
                        break
                self.same(BASE + "\n" + " ".join(words))


class ShownTest(unittest.TestCase):
    def test_the_documents(self):
        x, z = X, ZERO
        signature = ((("count", "closed"),), (("z", (), "count"), ("s", ("count",), "count")))
        cases = (((z,), z), ((("s", z),), z), ((("s", ("s", x)),), ("s", ("!", "half", x))))
        small = (signature, (("half", ("count",), "count", cases),))
        told = show_program((small, (("u", ((0, 2),), (("half", (z,)),)),)))
        self.assertEqual(told.split("\n"), [
            "kind count closed", "make z () count", "make s (count) count", "template half (count) count", "case (z) = z",
            "case (s(z)) = z", "case (s(s(?x))) = s(half(?x))", "unit u", "see half (0, 2)", "root half(z)",
        ])
        self.assertEqual(read_program(show_program((small, ()))), (small, ()))

    def test_the_base_is_as_it_is_shown(self):
        self.assertEqual(show_program(read_program(BASE)), BASE)

    def test_each_sort_of_row(self):
        table = (SIG, (
            ("f", ("type", "count", "row", "truth"), "row", (
                ((("ptr", X), Y, ("cons", X, ("?", "r")), YES), ("!", "f", INT, ("s", Y), ("cons", X, ("?", "r")), YES)),
            )),
            ("g", ("type",), "type", ()),
        ))
        units = (
            ("u", ((0,), ()), (("g", (("ptr", ("#", "type", 10)),)), ("f", (INT, ZERO, ("nil",), YES)))),
            ("v", ((), ()), ()),
        )
        self.assertIs(is_table(table), True)
        self.assertEqual(show_program((table, units)).split("\n")[4:], [
            "make z () count", "make s (count) count", "make yes () truth", "make no () truth", "make int () type",
            "make ptr (type) type", "make nil () row", "make cons (type, row) row",
            "template f (type, count, row, truth) row",
            "case (ptr(?x), ?y, cons(?x, ?r), yes) = f(int, s(?y), cons(?x, ?r), yes)",
            "template g (type) type",
            "unit u", "see f (0)", "root g(ptr(#type 10))", "root f(int, z, nil, yes)",
            "unit v",
        ])

    def test_read_back(self):
        for program in (PROGRAM, (TABLE, ()), (FULL, ()), (table_of(SWAP), ()), (table_of(), ()), (table_of(), (("u", (), ()),)),
                        (((((("a", "open"),), ())), ()), ())):
            self.assertIs(is_program(program), True)
            text = show_program(program)
            self.assertIsInstance(text, str)
            self.assertEqual(read_program(text), program)
            self.assertNotIn("\n\n", text)
            self.assertEqual(text, text.strip())

    def test_numbers_of_20_and_21_figures(self):
        for figures, is_read in ((20, True), (21, False), (100, False)):
            root = ("same", (INT, ("#", "type", int("9" * figures))))
            program = (TABLE, (("u", ((), (), ()), (root,)),))
            text = show_program(program)
            self.assertEqual(text.split("\n")[-1], f"root same(int, #type {'9' * figures})")
            if is_read:
                self.assertEqual(read_program(text), program)
            else:
                self.assertEqual(refusal(text), (text.count("\n"), 7))

    def test_random_programs_read_back(self):
        rng = random.Random(33)
        for _ in range(40):
            definitions = []
            for at in range(rng.randint(0, 3)):
                params = tuple(rng.choice(("count", "type", "row")) for _ in range(rng.randint(1, 4)))
                rows = []
                for _ in range(rng.randint(0, 3)):
                    row = tuple(self.random_term(rng, kind, 3, True) for kind in params)
                    if is_table((SIG, ((f"f{at}", params, "truth", tuple((other, YES) for other in [*rows, row])),))):
                        rows.append(row)
                definitions.append((f"f{at}", params, "truth", tuple((row, YES) for row in rows)))
            units = []
            for at in range(rng.randint(0, 3)):
                seen = tuple(tuple(case for case in range(len(told[3])) if rng.random() < 0.5) for told in definitions)
                roots = []
                for name, params, result, cases in definitions:
                    roots.append((name, tuple(self.random_term(rng, kind, 4, False) for kind in params)))
                units.append((f"u{at}", seen, tuple(roots)))
            program = ((SIG, tuple(definitions)), tuple(units))
            self.assertIs(is_program(program), True)
            self.assertEqual(read_program(show_program(program)), program)

    def random_term(self, rng, kind, depth, has_variables):
        makers = [(name, needs) for name, needs, made in SIG[1] if made == kind and (depth > 0 or not needs)]
        if has_variables and rng.random() < 0.3:
            return ("?", kind[0] + rng.choice("xyz_1"))
        if not has_variables and kind == "type" and rng.random() < 0.4:
            return ("#", "type", rng.choice((1, 7, 10 ** 19, 10 ** 20 - 1)))
        name, needs = rng.choice(makers)
        return (name, *[self.random_term(rng, need, depth - 1, has_variables) for need in needs])

    def test_deep_uses(self):
        root = ("plus", (chain(390, ZERO), ZERO))
        program = (TABLE, (("u", ((), (), ()), (root,)),))
        self.assertEqual(read_program(show_program(program)), program)


if __name__ == "__main__":
    unittest.main()
