"""The examples of the document, as they stand there."""

import doctest
import unittest

SIGNATURES = '''
>>> from instances.signatures import is_signature, is_small, terms
>>> kinds = (("count", "closed"), ("truth", "closed"), ("type", "open"), ("row", "closed"))
>>> makers = (("z", (), "count"), ("s", ("count",), "count"), ("yes", (), "truth"), ("no", (), "truth"), ("int", (), "type"), ("ptr", ("type",), "type"), ("nil", (), "row"), ("cons", ("type", "row"), "row"))
>>> sig = (kinds, makers)
>>> [is_signature(sig), is_signature(((("a", "closed"),), (("m", ("a",), "a"),))), [is_small(sig, kind) for kind, word in kinds]]
[True, False, [False, True, False, False]]
>>> [terms(sig, "count", 2), terms(sig, "truth", 1), terms(sig, "row", 3), terms(sig, "row", 2)]
[(('s', ('z',)),), (('no',), ('yes',)), (('cons', ('int',), ('nil',)),), ()]
'''

PATTERNS = '''
>>> from instances.patterns import are_alike, are_patterns, do_fit, is_as_special, is_term, meet, named
>>> x, y, int_, ptr = ("?", "x"), ("?", "y"), ("int",), ("ptr", ("?", "x"))
>>> [is_term(sig, "type", ("#", "type", 1)), is_term(sig, "type", ptr), are_patterns(sig, ("type", "count"), (x, x)), are_patterns(sig, ("type", "type"), (x, ptr))]
[True, False, False, True]
>>> [do_fit(sig, ("type", "type"), (x, x), (int_, int_)), do_fit(sig, ("type", "type"), (x, x), (int_, ("#", "type", 1))), is_as_special(sig, ("type", "type"), (x, x), (y, x)), is_as_special(sig, ("type", "type"), (y, x), (x, x))]
[True, False, True, False]
>>> [meet(sig, ("type", "type"), (ptr, y), (x, ("ptr", y))), meet(sig, ("type", "type"), (x, x), (int_, y)), meet(sig, ("type", "type"), (x, x), (y, ("ptr", y)))]
[(('ptr', ('?', 'v1')), ('ptr', ('?', 'v2'))), (('int',), ('int',)), None]
>>> [named(sig, ("type", "type"), (ptr, x)), are_alike(sig, ("type",), (x,), (y,))]
[(('ptr', ('?', 'v1')), ('?', 'v1')), True]
'''

# The sessions go on from module to module: names stay told.
SESSION = SIGNATURES + PATTERNS


class ExamplesTest(unittest.TestCase):
    def test_sessions(self):
        test = doctest.DocTestParser().get_doctest(SESSION, {}, "examples", None, 0)
        told = []
        results = doctest.DocTestRunner(verbose=False).run(test, out=told.append)
        self.assertEqual(results.failed, 0, "".join(told))
        self.assertEqual(results.attempted, 12)


if __name__ == "__main__":
    unittest.main()
