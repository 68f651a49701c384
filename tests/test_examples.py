"""The examples of the document, as they stand there."""

import unittest

SIGNATURES = '''
>>> from instances.signatures import is_signature, is_small, terms
>>> kinds = (("count", "closed"), ("truth", "closed"), ("type", "open"), ("row", "closed"))
>>> makers = (("z", (), "count"), ("s", ("count",), "count"), ("yes", (), "truth"), ("no", (), "truth"), ("int", (), "type"), ("ptr", ("type",), "type"), ("nil", (), "row"), ("cons", ("type", "row"), "row"))
>>> sig = (kinds, makers)
>>> [is_signature(sig), is_signature(((("a", "closed"),), (("m", ("a",), "a"),))), [is_small(sig, kind) for kind, word in kinds]]
[True, False, [False, True, False, False]]
>>> [terms(sig, "count", 2), terms(sig, "truth", 1), terms(sig, "row", 3), terms(sig, "row", 2)]
[(('s', ('z',)),), (('no',), ('yes',)), (('cons', ('int',), ('nil',)),), ()]
'''

PATTERNS = '''
>>> from instances.patterns import are_alike, are_patterns, do_fit, is_as_special, is_term, meet, named
>>> x, y, int_, ptr = ("?", "x"), ("?", "y"), ("int",), ("ptr", ("?", "x"))
>>> [is_term(sig, "type", ("#", "type", 1)), is_term(sig, "type", ptr), are_patterns(sig, ("type", "count"), (x, x)), are_patterns(sig, ("type", "type"), (x, ptr))]
[True, False, False, True]
>>> [do_fit(sig, ("type", "type"), (x, x), (int_, int_)), do_fit(sig, ("type", "type"), (x, x), (int_, ("#", "type", 1))), is_as_special(sig, ("type", "type"), (x, x), (y, x)), is_as_special(sig, ("type", "type"), (y, x), (x, x))]
[True, False, True, False]
>>> [meet(sig, ("type", "type"), (ptr, y), (x, ("ptr", y))), meet(sig, ("type", "type"), (x, x), (int_, y)), meet(sig, ("type", "type"), (x, x), (y, ("ptr", y)))]
[(('ptr', ('?', 'v1')), ('ptr', ('?', 'v2'))), (('int',), ('int',)), None]
>>> [named(sig, ("type", "type"), (ptr, x)), are_alike(sig, ("type",), (x,), (y,))]
[(('ptr', ('?', 'v1')), ('?', 'v1')), True]
'''

COVERS = '''
>>> from instances.covers import cover, is_cover, witness
>>> z, s = ("z",), ("s", ("?", "x"))
>>> [cover(sig, ("count",), (x,), ((z,), (s,))), cover(sig, ("type",), (x,), ((int_,), (ptr,))), cover(sig, ("type",), (x,), ((int_,), (y,)))]
[('split', 'v1', (('leaf', 0), ('leaf', 1))), None, ('leaf', 1)]
>>> [witness(sig, ("count",), (x,), ((z,), (s,))), cover(sig, ("truth", "truth"), (x, y), ((x, x), (("yes",), ("no",)), (("no",), ("yes",)))) is None]
[None, False]
>>> other = witness(sig, ("type", "type"), (x, y), ((int_, y), (ptr, y), (x, x)))
>>> [is_term(sig, "type", other[0]), other[0][0], other[0] == other[1]]
[True, '#', False]
>>> [is_cover(sig, ("count",), (x,), ((z,), (s,)), ("split", "v1", (("leaf", 0), ("leaf", 1)))), is_cover(sig, ("count",), (x,), ((z,), (s,)), ("leaf", 1)), is_cover(sig, ("count", "count"), (x, y), ((x, x), (z, y)), ("leaf", 0))]
[True, False, False]
'''

TABLES = '''
>>> from instances.tables import chosen_use, closing, fault, is_table, verdict
>>> plus = ("plus", ("count", "count"), "count", (((z, y), y), ((s, y), ("s", ("!", "plus", x, y)))))
>>> same = ("same", ("type", "type"), "truth", (((x, y), ("no",)), ((x, x), ("yes",))))
>>> both = ("both", ("type", "type"), "truth", (((x, y), ("no",)), ((ptr, y), ("yes",)), ((x, ("ptr", y)), ("yes",))))
>>> table = (sig, (plus, same, both))
>>> [is_table(table), is_table((sig, (plus, plus))), verdict(table, ("same", (int_, int_))), verdict(table, ("plus", (z, z)))]
[True, False, ('chosen', 1), ('chosen', 0)]
>>> [fault(table, "plus"), fault(table, "same"), verdict(table, fault(table, "both")), closing(table, "both"), closing(table, "same")]
[None, None, ('two', 1, 2), ((('ptr', ('?', 'v1')), ('ptr', ('?', 'v2'))),), ()]
>>> verdict(table, ("plus", (z, int_)))
raises InvalidUse(given=('plus', (('z',), ('int',))))
>>> [verdict(table, chosen_use(table, "both", case)) for case in (0, 1, 2)]
[('chosen', 0), ('chosen', 1), ('chosen', 2)]
'''

RUNS = '''
>>> from instances.runs import instances, run
>>> two = ("s", ("s", z))
>>> [run(table, ("plus", (two, two))), run(table, ("both", (("ptr", int_), ("ptr", int_))))]
[('value', ('s', ('s', ('s', ('s', ('z',)))))), ('two', ('both', (('ptr', ('int',)), ('ptr', ('int',)))))]
>>> instances(table, ("plus", (("s", z), z)))
((('plus', (('z',), ('z',))), 0, ('z',)), (('plus', (('s', ('z',)), ('z',))), 1, ('s', ('z',))))
>>> times = ("times", ("count", "count"), "count", (((z, y), z), ((s, y), ("!", "plus", y, ("!", "times", x, y)))))
>>> ever = ("ever", ("count",), "count", (((x,), ("!", "ever", x)),))
>>> full = (sig, (plus, times, ever))
>>> [run(full, ("times", (two, two)))[1], len(instances(full, ("times", (two, two)))), run(full, ("ever", (z,)))]
[('s', ('s', ('s', ('s', ('z',))))), 9, ('round', ('ever', (('z',),)))]
'''

# The sessions go on from module to module: names stay told.
SESSION = SIGNATURES + PATTERNS + COVERS + TABLES + RUNS


def examples(session):
    """Pairs of a statement and what is told of it, "" for nothing."""
    found = []
    for line in session.strip().split("\n"):
        if line.startswith(">>> "):
            found.append((line[4:], ""))
        elif line:
            found[-1] = (found[-1][0], line)
    return found


def answer(statement, names):
    """What Python shows behind the statement, an error as the document tells it."""
    try:
        return repr(eval(statement, names))
    except SyntaxError:
        exec(statement, names)
        return ""
    except ValueError as error:
        [(name, value)] = vars(error).items()
        return f"raises {error.__class__.__name__}({name}={value!r})"


class ExamplesTest(unittest.TestCase):
    def test_sessions(self):
        names = {}
        for statement, told in examples(SESSION):
            self.assertEqual(answer(statement, names), told, statement)

    def test_all_examples_are_there(self):
        told = [told for statement, told in examples(SESSION) if told]
        self.assertEqual(len(told), 17)
        self.assertEqual(len([line for line in told if line.startswith("raises ")]), 1)


if __name__ == "__main__":
    unittest.main()
