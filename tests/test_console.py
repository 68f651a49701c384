"""The console: [37], [38], [39]."""

import random
import unittest

from instances.console import fresh_console, said, told_all
from instances.endings import groups, loop
from instances.errors import InvalidLines, InvalidText, Unformed, Unsound
from instances.labels import label_of
from instances.runs import instances, run
from instances.tables import chosen_use, closing, fault, verdict
from instances.texts import read_program, show_program
from instances.units import link, needed, unlike
from programs import GROW, ONE, PLUS, PROGRAM, SWAP, TABLE, TWO, table_of
from samples import INT, X, ZERO, chain, odd_values
from test_texts import BASE, refusal, words_of

ASKING = ("choose", "run", "count", "label", "fault", "dead", "closing", "groups", "ending", "needed", "unlike", "link")
ROWS = ("kind", "make", "template", "case", "unit", "see", "root")


def console_of(program):
    """The console behind the rows of the program."""
    console = fresh_console()
    for row in show_program(program).split("\n"):
        console, answer = said(console, row)
        assert answer == "taken", row
    return console


class ConsoleTest(unittest.TestCase):
    def asked(self, console, line):
        """The answer to a line that leaves the console as it is."""
        before, answer = said(console, line)
        self.assertEqual(before, console)
        self.assertIsInstance(answer, str)
        return answer

    def test_the_documents(self):
        self.assertEqual(told_all(fresh_console(), (
            "choose f(c)", "kind a closed", "show", "make c () a", "make d(a) a", "template f(a) a", "case (c) = c", "case (c) = c",
            "choose f(d(c))", "case (d(?x)) = f(?x)", "fault f", "run f(d(d(c)))", "count f(d(d(c)))", "ending", "label f(c)", "rows",
        ))[1], (
            "not whole", "taken", "not whole at 1 0", "taken", "taken", "taken", "taken", "not taken at 4", "none", "taken", "sound",
            "value c", "3", "ends", "1f1c", "6",
        ))
        self.assertEqual(told_all(fresh_console(), (
            "make c () a", "kind a open", "make c () a", "template g(a, a) a", "case (?x, ?x) = ?x", "case (c, ?x) = c", "choose g(c, c)",
            "choose g(c, #a 3)", "choose g(#a 3, c)", "closing g", "back", "back", "rows",
        ))[1], (
            "not taken at 4", "taken", "taken", "taken", "taken", "taken", "two 0 1", "case 1", "none", "1", "back", "back", "3",
        ))

    def test_the_fresh_console(self):
        self.assertEqual(fresh_console(), ("", ()))
        for line, answer in (("rows", "0"), ("show", "not whole at 0 0"), ("back", "nothing there"), ("link", "not whole"), ("", "not understood")):
            self.assertEqual(self.asked(fresh_console(), line), answer)

    def test_rows_are_kept_with_one_blank_between_words(self):
        console = fresh_console()
        states = [""]
        for line, row in (
            ("  kind   a open ", "kind a open"), ("make c()a", "make c ( ) a"), ("make d (a,a) a", "make d ( a , a ) a"),
            ("template f(a,a)a", "template f ( a , a ) a"), ("case (?x,c)=d(?x,c)", "case ( ? x , c ) = d ( ? x , c )"),
            ("unit u", "unit u"), ("see f(0)", "see f ( 0 )"), ("root f(#a 12,c)", "root f ( # a 12 , c )"),
        ):
            console, answer = said(console, line)
            self.assertEqual(answer, "taken")
            states.append(states[-1] + "\n" + row if states[-1] else row)
            self.assertEqual(console, (states[-1], tuple(states[:-1])))
        self.assertEqual(self.asked(console, "rows"), "8")
        self.assertEqual(self.asked(console, "show"), "whole")

    def test_each_word_that_a_row_is_refused_at(self):
        rows = BASE.split("\n")
        console = fresh_console()
        rng = random.Random(38)
        for at, row in enumerate(rows):
            words = words_of(row)
            for _ in range(30):
                changed = list(words)
                changed[rng.randrange(1, len(words)):] = rng.choice((
                    [], ["@"], ["("], [rng.choice("acfo")], [rng.choice("01?#,=)")], ["c"] * rng.randint(1, 3),
                ))
                ahead = "\n".join(rows[:at])
                found = refusal((ahead + "\n" if ahead else "") + " ".join(changed))
                after, answer = said(console, " ".join(changed))
                if found is not None and found[0] == at:
                    self.assertEqual((after, answer), (console, f"not taken at {found[1]}"))
                else:
                    self.assertEqual(answer, "taken")
                    self.assertEqual(after[1][-1], console[0])
            console, answer = said(console, row)
            self.assertEqual(answer, "taken")
        self.assertEqual(read_program(console[0]), read_program(BASE))

    def test_rows_that_are_not_taken_leave_the_console(self):
        console = console_of(PROGRAM)
        for line, word in (("kind count open", 1), ("kind", 1), ("make", 1), ("template", 1), ("unit", 1), ("see", 1), ("root", 1), ("case", 1),
                           ("kind @ open", 1), ("kind x open open", 3), ("root plus(z)", 4), ("root plus(z, z) z", 7), ("kind\tx open", 1),
                           ("kind(", 1), ("unit a", 1), ("unit u\u00e9", 2), ("see same (0)", 1)):
            self.assertEqual(self.asked(console, line), f"not taken at {word}", line)
        self.assertEqual(self.asked(fresh_console(), "case (c) = c"), "not taken at 0")
        self.assertEqual(self.asked(fresh_console(), "root f(c)"), "not taken at 0")
        self.assertEqual(self.asked(fresh_console(), "see f (0)"), "not taken at 0")

    def test_back(self):
        lines = [f"kind k{at} open" for at in range(8)]
        console = told_all(fresh_console(), tuple(lines))[0]
        states = ["\n".join(lines[:many]) for many in range(9)]
        for many in range(7, -1, -1):
            self.assertEqual(len(console[1]), many + 1)
            console, answer = said(console, " back " if many % 2 else "back")
            self.assertEqual(answer, "back")
            self.assertEqual(console, (states[many], tuple(states[:many])))
        self.assertEqual(self.asked(console, "back"), "nothing there")
        self.assertEqual(console, fresh_console())
        # What is told after a way back begins anew from there.
        console, answers = told_all(console, ("kind a open", "kind b open", "back", "kind c open", "back", "back", "back"))
        self.assertEqual(answers, ("taken", "taken", "back", "taken", "back", "back", "nothing there"))

    def test_twenty_earlier_states_and_one_more(self):
        lines = ["kind a open"] + [f"make m{at} () a" for at in range(23)]
        console = fresh_console()
        states = [""]
        for line in lines:
            console, answer = said(console, line)
            self.assertEqual(answer, "taken")
            self.assertEqual(console[1], tuple(states[-20:]))
            states.append(console[0])
        self.assertEqual(len(states), 25)
        for many in range(20):
            console, answer = said(console, "back")
            self.assertEqual(answer, "back")
            self.assertEqual(console[0], states[23 - many])
        self.assertEqual(self.asked(console, "back"), "nothing there")
        self.assertEqual(console, (states[4], ()))
        self.assertEqual(self.asked(console, "rows"), "4")

    def test_lines_that_only_ask_change_nothing(self):
        console = console_of(PROGRAM)
        for line in ("rows", "show", "choose plus(z, z)", "run plus(z, z)", "link", "ending", "groups", "nonsense", "", "kind count open"):
            self.asked(console, line)

    def test_lines_with_a_new_line(self):
        console = console_of(PROGRAM)
        for line in ("\n", "rows\n", "\nrows", "kind a open\nkind b open", "back\n", "show\n", "link\n", "kind a\n", "choose\n"):
            self.assertEqual(self.asked(console, line), "not understood")
            self.assertEqual(self.asked(fresh_console(), line), "not understood")

    def test_what_is_none_of_the_forms(self):
        console = console_of(PROGRAM)
        for line in ("", " ", "   ", "x", "rows 1", "rows rows", "show it", "back back", "back 1", "Back", "choose", "?", "(", "12", "\u00e9", "\t",
                     "rows\t", "kinds a open", "ch oose plus(z, z)", "show.", "\rrows", "help", "case_ (c) = c"):
            self.assertEqual(self.asked(console, line), "not understood", line)
        for line in ("rows 1", "show it", "back 1", "x", "kinds"):
            self.assertEqual(self.asked(fresh_console(), line), "not understood", line)

    def test_not_whole_whatever_stands_behind(self):
        for rows in ((), ("kind a closed",), ("kind a open", "template f (a) a", "case (?x) = g(?x)")):
            console, answers = told_all(fresh_console(), rows)
            self.assertEqual(answers, ("taken",) * len(rows))
            for word in ASKING:
                for more in ("", " ", " f(c)", " @", " x y z", "(", " f", " \u00e9", " ? # 1"):
                    self.assertEqual(self.asked(console, word + more), "not whole", word + more)
            self.assertEqual(self.asked(console, "show"), f"not whole at {len(rows)} 0")

    def test_a_word_more_and_a_word_less(self):
        console = console_of(PROGRAM)
        for line in (
            "choose plus(s(z), z)", "run plus(z, z)", "count plus(z, z)", "label same(int, #type 4)", "fault plus", "dead both 2", "closing both",
            "groups", "ending", "needed both (ptr(?x), ?y)", "unlike a b same", "link",
        ):
            words = words_of(line)
            self.assertNotEqual(self.asked(console, line), "not understood", line)
            self.assertEqual(self.asked(console, "  " + "  ".join(words) + "  "), self.asked(console, line))
            for more in (")", "z", "0", "?", "@"):
                self.assertEqual(self.asked(console, line + " " + more), "not understood", line)
            for many in range(1, len(words)):
                self.assertEqual(self.asked(console, " ".join(words[:many])), "not understood", (line, many))
                self.assertEqual(self.asked(console, " ".join(words[:many] + words[many + 1:])), "not understood", (line, many))

    def test_forms_that_are_not_right_for_the_program(self):
        console = console_of(PROGRAM)
        for line in (
            "choose plus(z)", "choose plus(z, int)", "choose minus(z, z)", "choose s(z)", "choose plus(?x, z)", "choose plus(z, plus(z, z))",
            "run same(int, #type 0)", "run same(int, #count 1)", "run same(int, #type " + "1" * 21 + ")", "count plus", "label plus(z, z",
            "fault minus", "fault z", "fault count", "fault 0", "dead both 3", "dead both 00", "dead both", "dead both x", "dead both 01",
            "dead 0 both", "closing a", "needed both (ptr(?x))", "needed both (?x, ?y, ?z)", "needed both (#type 1, ?x)", "needed both ()",
            "needed plus (?x, ptr(?y))", "needed same (plus(z, z), ?x)", "needed both ?x", "unlike a b minus", "unlike a c same",
            "unlike same a b", "unlike 0 1 same", "unlike a b", "needed plus (?x, ?1)",
        ):
            self.assertEqual(self.asked(console, line), "not understood", line)

    def test_answers_are_what_the_functions_tell(self):
        console = console_of(PROGRAM)
        table = TABLE
        double = ("both", (("ptr", INT), ("ptr", INT)))
        self.assertEqual(verdict(table, double), ("two", 1, 2))
        for line, answer in (
            ("choose both(ptr(int), ptr(int))", "two 1 2"), ("choose both(int, int)", "case 0"), ("choose same(#type 1, #type 1)", "case 1"),
            ("run both(ptr(int), ptr(int))", "two both(ptr(int), ptr(int))"), ("run plus(s(z), s(z))", "value s(s(z))"),
            ("run same(#type 5, #type 6)", "value no"), ("count plus(s(s(z)), z)", "3"), ("count both(ptr(int), ptr(int))", "no value"),
            ("label same(int, #type 12)", "4same3int04type12_"), ("fault plus", "sound"), ("dead same 0", None), ("dead same 1", None),
            ("closing both", "1"), ("closing same", "0"), ("groups", "plus same both"), ("ending", "unsound both"),
            ("needed same (?x, ?y)", "0 1"), ("needed same (?x, ?x)", "1"), ("needed both (ptr(?x), ptr(?y))", "none"),
            ("unlike a b plus", "alike"), ("unlike a a same", "alike"), ("link", "clash a b same(int, int)"),
        ):
            told = self.asked(console, line)
            if answer is not None:
                self.assertEqual(told, answer, line)
        self.assertEqual(self.asked(console, "fault both"), "fault " + self.shown(fault(table, "both")))
        self.assertEqual(self.asked(console, "dead same 0"), "chosen " + self.shown(chosen_use(table, "same", 0)))
        self.assertEqual(self.asked(console, "unlike b a same"), "unlike " + self.shown(unlike(PROGRAM, 1, 0, "same")))
        self.assertEqual(self.asked(console, "closing both"), str(len(closing(table, "both"))))
        self.assertEqual(self.asked(console, "label plus(s(z), z)"), label_of(table, ("plus", (ONE, ZERO))))
        self.assertEqual(self.asked(console, "count plus(s(z), z)"), str(len(instances(table, ("plus", (ONE, ZERO))))))
        self.assertEqual(self.asked(console, "needed both (?x, int)"), " ".join(map(str, needed(table, "both", (X, INT)))))
        self.assertEqual(link(PROGRAM)[:3], ("clash", 0, 1))

    def shown(self, use):
        """The use as the last row of a program's text tells it."""
        text = show_program((TABLE, (("u", ((), (), ()), (use,)),)))
        return text.split("\n")[-1][len("root "):]

    def test_dead_and_none(self):
        table = table_of(("f", ("count",), "count", (((X,), X), ((ZERO,), ZERO), ((("s", X),), X))), ("g", ("count",), "count", ()))
        console = console_of((table, ()))
        for line, answer in (("dead f 0", "dead"), ("dead f 1", "chosen f(z)"), ("dead f 3", "not understood"), ("choose g(z)", "none"),
                             ("run g(s(z))", "none g(s(z))"), ("needed g (?x)", "none"), ("needed f (?x)", "1 2"), ("dead g 0", "not understood"),
                             ("closing g", "0"), ("link", "linked 0"), ("groups", "f g")):
            self.assertEqual(self.asked(console, line), answer, line)

    def test_endings(self):
        for definitions, answer in (((PLUS,), "ends"), ((GROW, PLUS), "unformed grow"), ((), "ends")):
            self.assertEqual(self.asked(console_of((table_of(*definitions), ())), "ending"), answer)
        console = console_of((table_of(SWAP), ()))
        (name, args), steps = loop(table_of(SWAP))
        text = show_program((table_of(SWAP), (("u", ((),), ((name, args),)),)))
        self.assertEqual(self.asked(console, "ending"), "round " + text.split("\n")[-1][len("root "):])
        self.assertEqual(self.asked(console, "run swap(s(z), s(z))"), "round swap(s(z), s(z))")
        with self.assertRaises(Unformed):
            loop(table_of(GROW))
        with self.assertRaises(Unsound):
            loop(TABLE)

    def test_groups_with_several_names(self):
        even = ("even", ("count",), "count", (((X,), ("!", "odd", X)),))
        odd = ("odd", ("count",), "count", (((X,), ("!", "even", X)),))
        table = table_of(even, PLUS, odd)
        self.assertEqual(groups(table), (("even", "odd"), ("plus",)))
        self.assertEqual(self.asked(console_of((table, ())), "groups"), "even,odd plus")
        self.assertEqual(self.asked(told_all(fresh_console(), ("kind a open",))[0], "groups"), "")

    def test_links(self):
        units = (("u1", ((0, 1), (), ()), (("plus", (TWO, ZERO)), ("plus", (ONE, ZERO)))), ("u2", ((1,), (), ()), ()))
        self.assertEqual(self.asked(console_of((TABLE, units)), "link"), "linked 3")
        units = (units[0], ("u2", ((1,), (0, 1), ()), (("same", (INT, INT)), ("plus", (ONE, ZERO)))))
        self.assertEqual(self.asked(console_of((TABLE, units)), "link"), "stops u2 1")
        units = (units[0], ("u2", ((1,), (0, 1), ()), (("plus", (ONE, ZERO)),)))
        self.assertEqual(self.asked(console_of((TABLE, units)), "link"), "stops u2 0")
        self.assertEqual(self.asked(console_of(PROGRAM), "link"), "clash a b same(int, int)")

    def test_great_runs(self):
        console = console_of((TABLE, ()))
        deep = "s(" * 40 + "z" + ")" * 40
        self.assertEqual(self.asked(console, f"run plus({deep}, z)"), "great")
        self.assertEqual(self.asked(console, f"count plus({deep}, z)"), "no value")
        self.assertEqual(self.asked(console, f"label plus({deep}, z)"), "4plus" + "1s" * 40 + "1z1z")
        self.assertEqual(run(TABLE, ("plus", (chain(40, ZERO), ZERO))), ("great",))

    def test_lines_that_are_no_texts(self):
        console = fresh_console()
        for value in odd_values():
            if not isinstance(value, str):
                with self.assertRaises(InvalidLines) as raised:
                    said(console, value)
                self.assertIsNone(raised.exception.index)
            if not isinstance(value, tuple):
                with self.assertRaises(InvalidLines) as raised:
                    told_all(console, value)
                self.assertIsNone(raised.exception.index)

    def test_sixty_lines_and_sixty_one(self):
        console = fresh_console()
        self.assertEqual(told_all(console, ()), (console, ()))
        self.assertEqual(told_all(console, ("rows",) * 60), (console, ("0",) * 60))
        for lines, index in (
            (("rows",) * 61, None), ((5,) * 61, None), (["rows"], None), ("rows", None), (("rows", 5), 1), ((None, "rows", 5), 0),
            (("rows",) * 59 + (b"rows",), 59), (("kind a open", "rows", ("rows",)), 2),
        ):
            with self.assertRaises(InvalidLines) as raised:
                told_all(console, lines)
            self.assertEqual(raised.exception.index, index)

    def test_many_lines_are_as_one_behind_the_other(self):
        lines = ("kind a open", "rows", "back", "kind b closed", "show", "make c () b", "show", "link", "x", "back", "rows")
        console = fresh_console()
        answers = []
        for line in lines:
            console, answer = said(console, line)
            answers.append(answer)
        self.assertEqual(told_all(fresh_console(), lines), (console, tuple(answers)))
        self.assertEqual(tuple(answers), (
            "taken", "1", "back", "taken", "not whole at 1 0", "taken", "whole", "linked 0", "not understood", "back", "1",
        ))

    def test_show_tells_where_a_text_is_refused(self):
        rng = random.Random(39)
        rows = BASE.split("\n")
        for _ in range(60):
            picked = [row for row in rows if rng.random() < 0.8]
            console = fresh_console()
            for row in picked:
                console = said(console, row)[0]
            try:
                read_program(console[0])
                told = "whole"
            except InvalidText as error:
                told = f"not whole at {error.index[0]} {error.index[1]}"
            self.assertEqual(self.asked(console, "show"), told)
            self.assertEqual(self.asked(console, "link") == "not whole", told != "whole")


if __name__ == "__main__":
    unittest.main()
