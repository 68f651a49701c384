"""Labels and listings: [34], [35]."""

import unittest

from instances.errors import BadLabel, NoValue
from instances.labels import label_of, listing, read_label
from instances.runs import instances
from instances.tables import is_table
from programs import EVER, FULL, ONE, TABLE, TWO, table_of
from samples import INT, X, ZERO, chain, odd_values, rows_up_to

# Kinds of few terms, whose names begin with one another's; names of figures; one open kind.
ODD_NAMES = (
    (("p", "closed"), ("q", "closed"), ("o1", "open")),
    (
        ("a", (), "p"), ("ab", (), "p"), ("a1", ("q",), "p"), ("b", (), "q"), ("b2", (), "q"), ("bbbbbbbbbbbb", ("q", "q"), "p"),
        ("o", ("o1", "p"), "o1"), ("n", (), "o1"),
    ),
)
FINITE = (
    (("p", "closed"), ("q", "closed")),
    (
        ("a", (), "p"), ("ab", (), "p"), ("a1", ("q",), "p"), ("aaaaaaaaaaa", (), "p"), ("aaaaaaaaaaaa", ("q", "q"), "p"), ("b", (), "q"),
        ("b2", (), "q"),
    ),
)


def plain_term(term):
    if term[0] == "#":
        return "0" + str(len(term[1])) + term[1] + str(term[2]) + "_"
    return str(len(term[0])) + term[0] + "".join(plain_term(part) for part in term[1:])


def plain_label(use):
    return str(len(use[0])) + use[0] + "".join(plain_term(term) for term in use[1])


def spot_of(table, text):
    """Where the text is refused; None if it is read."""
    try:
        use = read_label(table, text)
    except BadLabel as error:
        return error.spot
    assert label_of(table, use) == text
    return None


class LabelsTest(unittest.TestCase):
    def test_the_documents(self):
        self.assertEqual(label_of(TABLE, ("plus", (TWO, ZERO))), "4plus1s1s1z1z")
        self.assertEqual(label_of(TABLE, ("same", (INT, ("#", "type", 12)))), "4same3int04type12_")
        self.assertEqual(read_label(TABLE, "4same3int04type12_"), ("same", (INT, ("#", "type", 12))))
        self.assertEqual(spot_of(TABLE, "4plus1z1y"), 8)

    def uses(self, table, depth, numbers=(1, 12)):
        return [
            (name, args) for name, params, result, cases in table[1]
            for args in rows_up_to(table[0], params, depth, (), numbers)
        ]

    def test_no_label_is_the_beginning_of_another_one(self):
        f = ("f", ("p", "q"), "p", ())
        f1 = ("f1", ("q",), "p", ())
        g = ("ff1b", ("o1",), "p", ())
        table = table_of(f, f1, g, signature=ODD_NAMES)
        self.assertIs(is_table(table), True)
        uses = self.uses(table, 3)
        labels = [label_of(table, use) for use in uses]
        self.assertEqual(labels, [plain_label(use) for use in uses])
        self.assertEqual(len(set(labels)), len(uses))
        ordered = sorted(labels)
        for one, other in zip(ordered, ordered[1:]):
            self.assertFalse(other.startswith(one))
        for use, text in zip(uses, labels):
            self.assertEqual(read_label(table, text), use)

    def test_refused_where_no_label_begins_so(self):
        f = ("f", ("p", "q"), "p", ())
        f1 = ("f1", ("q",), "p", ())
        table = table_of(f, f1, ("fffffffffff", ("p",), "q", ()), signature=FINITE)
        self.assertIs(is_table(table), True)
        labels = [plain_label(use) for use in self.uses(table, 2)]
        begins = {text[:many] for text in labels for many in range(len(text) + 1)}
        spots = set()
        texts = []
        for text in labels:
            texts += [text[:many] for many in range(len(text))]
            for sign in "01ab_2 F":
                texts += [text[:at] + sign + text[at:] for at in range(len(text) + 1)]
                texts += [text[:at] + sign + text[at + 1:] for at in range(len(text))]
            texts += [text[:at] + text[at + 1:] for at in range(len(text))]
        for text in texts + labels:
            if text in labels:
                self.assertIsNone(spot_of(table, text))
                continue
            wrong = [at for at in range(len(text)) if text[:at + 1] not in begins]
            told = wrong[0] if wrong else len(text)
            self.assertEqual(spot_of(table, text), told, text)
            spots.add(told)
        self.assertGreater(len(spots), 20)

    def test_labels_cut_off_and_with_a_sign_more(self):
        for use in (("plus", (TWO, ONE)), ("same", (("ptr", ("#", "type", 40)), INT)), ("both", (INT, ("#", "type", 3)))):
            text = label_of(TABLE, use)
            for many in range(len(text)):
                self.assertEqual(spot_of(TABLE, text[:many]), many)
            for sign in ("0", "1", "z", "_", " ", "\n", "\u00e9", "\u0661"):
                self.assertEqual(spot_of(TABLE, text + sign), len(text))
        self.assertEqual(spot_of(TABLE, ""), 0)

    def test_strangers_and_their_numbers(self):
        start = "4same3int04type"
        at = len(start)
        for figures in (1, 2, 19, 20, 21, 22, 100):
            number = int("12345678901234567890123456789012345"[:figures] if figures < 30 else "7" * figures)
            use = ("same", (INT, ("#", "type", number)))
            text = label_of(TABLE, use)
            self.assertEqual(text, f"{start}{number}_")
            self.assertEqual(spot_of(TABLE, text), None if figures <= 20 else at + 20)
            self.assertEqual(spot_of(TABLE, text[:-1]), at + min(figures, 20))
            self.assertEqual(spot_of(TABLE, text + "x"), len(text) if figures <= 20 else at + 20)
        for more, spot in (("_", 0), ("0_", 0), ("01_", 0), ("1", 1), ("1x", 1), ("10_", None), ("1__", 2), ("-1_", 0), ("+1_", 0),
                           ("1 _", 1), ("\u0661_", 0), ("1\u0661_", 1), ("1" * 20, 20), ("1" * 20 + "1", 20), ("1" * 20 + "_", None)):
            self.assertEqual(spot_of(TABLE, start + more), None if spot is None else at + spot, more)
        for text, spot in (("4same3int0", 10), ("4same3int04", 11), ("4same3int05", 10), ("4same3int05count", 10), ("4same3int04typf", 14),
                           ("4same3int00", 10), ("4plus04type", 5), ("4plus0", 5)):
            self.assertEqual(spot_of(TABLE, text), spot, text)

    def test_names_and_kinds(self):
        for text, spot in (("5", 0), ("4", 1), ("4p", 2), ("4same", 5), ("4x", 1), ("04same", 0), ("4sane", 3), ("4plus3int", 5), ("4plus1", 6),
                           ("4plus1z1z1z", 9), ("4plus1s1s1", 10), ("4same1z", 5), ("4same3ins", 8), ("same", 0), (" 4same", 0), ("\n", 0),
                           ("\u0664plus", 0), ("4plus2z", 5), ("1z", 0), ("4PLUS", 1)):
            self.assertEqual(spot_of(TABLE, text), spot, text)
        empty = table_of()
        for text in ("", "1", "x"):
            self.assertEqual(spot_of(empty, text), 0)

    def test_names_of_twelve_signs(self):
        table = table_of(("f" * 12, ("count",), "count", ()), ("f" * 11, ("count",), "count", ()), ("f", ("count",), "count", ()))
        for name in ("f" * 12, "f" * 11, "f"):
            text = label_of(table, (name, (ZERO,)))
            self.assertEqual(text, f"{len(name)}{name}1z")
            self.assertEqual(read_label(table, text), (name, (ZERO,)))
        self.assertEqual(spot_of(table, "1ff"), 2)
        self.assertEqual(spot_of(table, "11" + "f" * 12), 13)
        self.assertEqual(spot_of(table, "10f"), 1)
        self.assertEqual(spot_of(table, "13"), 1)
        self.assertEqual(spot_of(table, "1"), 1)

    def test_no_text(self):
        for value in odd_values():
            if not isinstance(value, str):
                with self.assertRaises(BadLabel) as raised:
                    read_label(TABLE, value)
                self.assertIsNone(raised.exception.spot)

    def test_deep_terms(self):
        use = ("plus", (chain(390, ZERO), chain(2, ZERO)))
        text = label_of(TABLE, use)
        self.assertEqual(text, "4plus" + "1s" * 390 + "1z1s1s1z")
        self.assertEqual(read_label(TABLE, text), use)


class ListingTest(unittest.TestCase):
    def test_the_documents(self):
        told = listing(TABLE, ("plus", (ONE, ZERO)))
        self.assertEqual(told, "4plus1z1z = case 0 -> 1z\n4plus1s1z1z = case 1 -> 1s1z")

    def test_rows_are_the_instances(self):
        for table, use in ((FULL, ("times", (TWO, TWO))), (FULL, ("even", (chain(5, ZERO),))), (TABLE, ("same", (INT, INT)))):
            rows = listing(table, use).split("\n")
            found = instances(table, use)
            self.assertEqual(len(rows), len(found))
            for row, (told, case, value) in zip(rows, found):
                self.assertEqual(row, f"{plain_label(told)} = case {case} -> {plain_term(value)}")
                self.assertEqual(read_label(table, row.split(" ")[0]), told)

    def test_values_with_strangers(self):
        wrap = ("wrap", ("type",), "type", (((X,), ("ptr", X)),))
        self.assertEqual(
            listing(table_of(wrap), ("wrap", (("#", "type", 10 ** 25),))),
            f"4wrap04type1{'0' * 25}_ = case 0 -> 3ptr04type1{'0' * 25}_",
        )

    def test_no_value(self):
        use = ("both", (("ptr", INT), ("ptr", INT)))
        great = ("plus", (chain(41, ZERO), ZERO))
        for table, asked, answer in (
            (TABLE, use, ("two", use)), (table_of(EVER), ("ever", (ONE,)), ("round", ("ever", (ONE,)))), (TABLE, great, ("great",)),
            (table_of(("f", ("count",), "count", ())), ("f", (ZERO,)), ("none", ("f", (ZERO,)))),
        ):
            with self.assertRaises(NoValue) as raised:
                listing(table, asked)
            self.assertEqual(raised.exception.given, answer)


if __name__ == "__main__":
    unittest.main()
