"""The examples of the document, as they stand there."""

import unittest

SIGNATURES = '''
>>> from instances.signatures import is_signature, is_small, terms
>>> kinds = (("count", "closed"), ("truth", "closed"), ("type", "open"), ("row", "closed"))
>>> makers = (("z", (), "count"), ("s", ("count",), "count"), ("yes", (), "truth"), ("no", (), "truth"), ("int", (), "type"), ("ptr", ("type",), "type"), ("nil", (), "row"), ("cons", ("type", "row"), "row"))
>>> sig = (kinds, makers)
>>> [is_signature(sig), is_signature(((("a", "closed"),), (("m", ("a",), "a"),))), [is_small(sig, kind) for kind, word in kinds]]
[True, False, [False, True, False, False]]
>>> [terms(sig, "count", 2), terms(sig, "truth", 1), terms(sig, "row", 3), terms(sig, "row", 2)]
[(('s', ('z',)),), (('no',), ('yes',)), (('cons', ('int',), ('nil',)),), ()]
'''

PATTERNS = '''
>>> from instances.patterns import are_alike, are_patterns, do_fit, is_as_special, is_term, meet, named
>>> x, y, int_, ptr = ("?", "x"), ("?", "y"), ("int",), ("ptr", ("?", "x"))
>>> [is_term(sig, "type", ("#", "type", 1)), is_term(sig, "type", ptr), are_patterns(sig, ("type", "count"), (x, x)), are_patterns(sig, ("type", "type"), (x, ptr))]
[True, False, False, True]
>>> [do_fit(sig, ("type", "type"), (x, x), (int_, int_)), do_fit(sig, ("type", "type"), (x, x), (int_, ("#", "type", 1))), is_as_special(sig, ("type", "type"), (x, x), (y, x)), is_as_special(sig, ("type", "type"), (y, x), (x, x))]
[True, False, True, False]
>>> [meet(sig, ("type", "type"), (ptr, y), (x, ("ptr", y))), meet(sig, ("type", "type"), (x, x), (int_, y)), meet(sig, ("type", "type"), (x, x), (y, ("ptr", y)))]
[(('ptr', ('?', 'v1')), ('ptr', ('?', 'v2'))), (('int',), ('int',)), None]
>>> [named(sig, ("type", "type"), (ptr, x)), are_alike(sig, ("type",), (x,), (y,))]
[(('ptr', ('?', 'v1')), ('?', 'v1')), True]
'''

COVERS = '''
>>> from instances.covers import cover, is_cover, witness
>>> z, s = ("z",), ("s", ("?", "x"))
>>> [cover(sig, ("count",), (x,), ((z,), (s,))), cover(sig, ("type",), (x,), ((int_,), (ptr,))), cover(sig, ("type",), (x,), ((int_,), (y,)))]
[('split', 'v1', (('leaf', 0), ('leaf', 1))), None, ('leaf', 1)]
>>> [witness(sig, ("count",), (x,), ((z,), (s,))), cover(sig, ("truth", "truth"), (x, y), ((x, x), (("yes",), ("no",)), (("no",), ("yes",)))) is None]
[None, False]
>>> other = witness(sig, ("type", "type"), (x, y), ((int_, y), (ptr, y), (x, x)))
>>> [is_term(sig, "type", other[0]), other[0][0], other[0] == other[1]]
[True, '#', False]
>>> [is_cover(sig, ("count",), (x,), ((z,), (s,)), ("split", "v1", (("leaf", 0), ("leaf", 1)))), is_cover(sig, ("count",), (x,), ((z,), (s,)), ("leaf", 1)), is_cover(sig, ("count", "count"), (x, y), ((x, x), (z, y)), ("leaf", 0))]
[True, False, False]
'''

TABLES = '''
>>> from instances.tables import chosen_use, closing, fault, is_table, verdict
>>> plus = ("plus", ("count", "count"), "count", (((z, y), y), ((s, y), ("s", ("!", "plus", x, y)))))
>>> same = ("same", ("type", "type"), "truth", (((x, y), ("no",)), ((x, x), ("yes",))))
>>> both = ("both", ("type", "type"), "truth", (((x, y), ("no",)), ((ptr, y), ("yes",)), ((x, ("ptr", y)), ("yes",))))
>>> table = (sig, (plus, same, both))
>>> [is_table(table), is_table((sig, (plus, plus))), verdict(table, ("same", (int_, int_))), verdict(table, ("plus", (z, z)))]
[True, False, ('chosen', 1), ('chosen', 0)]
>>> [fault(table, "plus"), fault(table, "same"), verdict(table, fault(table, "both")), closing(table, "both"), closing(table, "same")]
[None, None, ('two', 1, 2), ((('ptr', ('?', 'v1')), ('ptr', ('?', 'v2'))),), ()]
>>> verdict(table, ("plus", (z, int_)))
raises InvalidUse(given=('plus', (('z',), ('int',))))
>>> [verdict(table, chosen_use(table, "both", case)) for case in (0, 1, 2)]
[('chosen', 0), ('chosen', 1), ('chosen', 2)]
'''

RUNS = '''
>>> from instances.runs import instances, run
>>> two = ("s", ("s", z))
>>> [run(table, ("plus", (two, two))), run(table, ("both", (("ptr", int_), ("ptr", int_))))]
[('value', ('s', ('s', ('s', ('s', ('z',)))))), ('two', ('both', (('ptr', ('int',)), ('ptr', ('int',)))))]
>>> instances(table, ("plus", (("s", z), z)))
((('plus', (('z',), ('z',))), 0, ('z',)), (('plus', (('s', ('z',)), ('z',))), 1, ('s', ('z',))))
>>> times = ("times", ("count", "count"), "count", (((z, y), z), ((s, y), ("!", "plus", y, ("!", "times", x, y)))))
>>> ever = ("ever", ("count",), "count", (((x,), ("!", "ever", x)),))
>>> full = (sig, (plus, times, ever))
>>> [run(full, ("times", (two, two)))[1], len(instances(full, ("times", (two, two)))), run(full, ("ever", (z,)))]
[('s', ('s', ('s', ('s', ('z',))))), 9, ('round', ('ever', (('z',),)))]
'''

ENDINGS = r'''
>>> from instances.endings import carried, groups, is_formed, is_round, loop, roads
>>> even = ("even", ("count",), "truth", (((z,), ("yes",)), ((s,), ("!", "odd", x))))
>>> odd = ("odd", ("count",), "truth", (((z,), ("no",)), ((s,), ("!", "even", x))))
>>> full = (sig, (plus, times, even, odd))
>>> [groups(full), carried(full, "plus"), carried(full, "even"), is_formed(full), loop(full), roads(full)]
[(('plus',), ('times',), ('even', 'odd')), (1,), (), True, None, ((('open', ()), ('open', ())), (('open', ()), ('open', ())), (('open', ()), ('open', ())), (('open', ()), ('open', ())))]
>>> swap = ("swap", ("count", "count"), "count", (((z, y), z), ((s, y), ("!", "swap", y, s)), ((z, z), z)))
>>> one = ("s", z)
>>> [is_round((sig, (swap,)), loop((sig, (swap,)))), is_round((sig, (swap,)), (("swap", (one, one)), ((1, 0),))), is_round((sig, (swap,)), (("swap", (one, z)), ((1, 0),)))]
[True, True, False]
>>> grow = ("grow", ("count",), "count", (((z,), z), ((s,), ("!", "grow", ("s", s)))))
>>> loop((sig, (grow,)))
raises Unformed(given='grow')
'''

UNITS = r'''
>>> from instances.units import is_program, link, needed, unit_verdict, unlike
>>> last = ("a", ((0, 1), (0, 1), (0, 1, 2)), (("same", (int_, int_)),))
>>> less = ("b", ((0, 1), (0,), (0, 1)), (("same", (int_, int_)), ("plus", (z, two))))
>>> program = (table, (last, less))
>>> [is_program(program), unit_verdict(program, 0, ("same", (int_, int_))), unit_verdict(program, 1, ("same", (int_, int_))), link(program)]
[True, ('chosen', 1), ('chosen', 0), ('clash', 0, 1, ('same', (('int',), ('int',))))]
>>> [needed(table, "same", (x, y)), needed(table, "same", (x, x)), needed(table, "same", (int_, ptr)), needed(table, "both", (ptr, y))]
[(0, 1), (1,), (0,), (1,)]
>>> [unlike(program, 0, 1, "plus"), unit_verdict(program, 0, unlike(program, 0, 1, "same"))]
[None, ('chosen', 1)]
>>> link((table, (("c", ((0, 1), (), ()), (("plus", (z, z)),)), ("d", ((1,), (), ()), ()))))
('linked', ((('plus', (('z',), ('z',))), 0, ('z',)),))
'''

TEXTS = r'''
>>> from instances.texts import read_program, show_program
>>> small = (((("count", "closed"),), (("z", (), "count"), ("s", ("count",), "count"))), (("half", ("count",), "count", (((z,), z), ((("s", z),), z), ((("s", ("s", x)),), ("s", ("!", "half", x))))),))
>>> show_program((small, (("u", ((0, 2),), (("half", (z,)),)),))).split("\n")
['kind count closed', 'make z () count', 'make s (count) count', 'template half (count) count', 'case (z) = z', 'case (s(z)) = z', 'case (s(s(?x))) = s(half(?x))', 'unit u', 'see half (0, 2)', 'root half(z)']
>>> read_program(show_program((small, ()))) == (small, ())
True
>>> read_program("kind a closed\nmake c () b")
raises InvalidText(index=(1, 4))
>>> read_program("kind a closed\n\nmake c (a) a")
raises InvalidText(index=(3, 0))
>>> read_program("kind a closed\nmake c () a\ntemplate f (a) a\ncase (?x) = g(?x)")
raises InvalidText(index=(4, 0))
'''

LABELS = r'''
>>> from instances.labels import label_of, listing, read_label
>>> [label_of(table, ("plus", (two, z))), label_of(table, ("same", (int_, ("#", "type", 12))))]
['4plus1s1s1z1z', '4same3int04type12_']
>>> [read_label(table, "4same3int04type12_"), listing(table, ("plus", (one, z)))]
[('same', (('int',), ('#', 'type', 12))), '4plus1z1z = case 0 -> 1z\n4plus1s1z1z = case 1 -> 1s1z']
>>> read_label(table, "4plus1z1y")
raises BadLabel(spot=8)
'''

CERTIFICATES = r'''
>>> from instances.certificates import certify_case, certify_choice, certify_cover, certify_ending, certify_run, certify_units
>>> from instances.checker import accepts
>>> [certify_choice(table, name)[0][0] for name in ("plus", "same", "both")]
['one choice', 'one choice', 'no choice']
>>> [accepts(("one choice", table, "same"), (("leaf", 0), ((0, 1, ("leaf", 0)),))), accepts(("one choice", table, "both"), (("leaf", 0), ())), accepts(("no choice", table, "both"), ("both", (("ptr", int_), ("ptr", int_))))]
[True, False, True]
>>> [certify_ending(full)[0][0], certify_ending((sig, (swap,)))[0][0], certify_case(table, "same", 0)[0][0], certify_units(program, 0, 1, "same")[0][0], certify_run(table, ("plus", (z, z)))[0][3]]
['ends', 'goes round', 'chosen', 'unlike', ('z',)]
>>> [accepts(("value", table, ("plus", (z, z)), z), ((("plus", (z, z)), 0, z),)), accepts(("covered", sig, ("count",), (x,), ((z,), (s,))), ("split", "v1", (("leaf", 0), ("leaf", 1))))]
[True, True]
'''

CONSOLE = r'''
>>> from instances.console import fresh_console, said, told_all
>>> told_all(fresh_console(), ("choose f(c)", "kind a closed", "show", "make c () a", "make d(a) a", "template f(a) a", "case (c) = c", "case (c) = c", "choose f(d(c))", "case (d(?x)) = f(?x)", "fault f", "run f(d(d(c)))", "count f(d(d(c)))", "ending", "label f(c)", "rows"))[1]
('not whole', 'taken', 'not whole at 1 0', 'taken', 'taken', 'taken', 'taken', 'not taken at 4', 'none', 'taken', 'sound', 'value c', '3', 'ends', '1f1c', '6')
>>> told_all(fresh_console(), ("make c () a", "kind a open", "make c () a", "template g(a, a) a", "case (?x, ?x) = ?x", "case (c, ?x) = c", "choose g(c, c)", "choose g(c, #a 3)", "choose g(#a 3, c)", "closing g", "back", "back", "rows"))[1]
('not taken at 4', 'taken', 'taken', 'taken', 'taken', 'taken', 'two 0 1', 'case 1', 'none', '1', 'back', 'back', '3')
>>> said(fresh_console(), 5)
raises InvalidLines(index=None)
'''

# The sessions go on from module to module: names stay told.
SESSION = SIGNATURES + PATTERNS + COVERS + TABLES + RUNS + ENDINGS + UNITS + TEXTS + LABELS
SESSION += CERTIFICATES + CONSOLE


def examples(session):
    """Pairs of a statement and what is told of it, "" for nothing."""
    found = []
    for line in session.strip().split("\n"):
        if line.startswith(">>> "):
            found.append((line[4:], ""))
        elif line:
            found[-1] = (found[-1][0], line)
    return found


def answer(statement, names):
    """What Python shows behind the statement, an error as the document tells it."""
    try:
        return repr(eval(statement, names))
    except SyntaxError:
        exec(statement, names)
        return ""
    except ValueError as error:
        [(name, value)] = vars(error).items()
        return f"raises {error.__class__.__name__}({name}={value!r})"


class ExamplesTest(unittest.TestCase):
    def test_sessions(self):
        names = {}
        for statement, told in examples(SESSION):
            self.assertEqual(answer(statement, names), told, statement)

    def test_all_examples_are_there(self):
        told = [told for statement, told in examples(SESSION) if told]
        self.assertEqual(len(told), 39)
        self.assertEqual(len([line for line in told if line.startswith("raises ")]), 7)


if __name__ == "__main__":
    unittest.main()
