"""The examples of the interface, just as they stand in the document, and those of README.md."""

import doctest
import pathlib
import unittest

README = pathlib.Path(__file__).resolve().parent.parent / "README.md"

MACHINES = """
>>> from foldlook.machines import Machine, behind, cut, mapped, squeezed, stripped
>>> small, short = mapped('aAbB', ('a', 'a', 'b', 'b')), cut('aAbB', 2)
>>> [small.made('AbB'), short.made('AbB'), behind(small, short).made('AbB'), len(behind(small, short)), stripped('_ab', '_').made('__a_'), squeezed('_ab', '_').made('__a__'), Machine('ab', (((0, ''), (0, 'b')),)).made('abab')]
['abb', 'Ab', 'ab', 3, 'a_', '_a_', 'bb']
"""

CONDITIONS = """
>>> from foldlook.conditions import meets, stand
>>> from foldlook.machines import plain
>>> whole = plain('abc')
>>> [meets(whole, ('begins', 'ab'), 'abc'), meets(whole, ('between', 'ab', 'b'), 'ba'), meets(whole, ('like', '*c?'), 'abca'), stand(whole, ('between', 'ab', 'b'), 'ac'), stand(whole, ('like', '*c'), 'ac')]
[True, False, True, (-2, -1), (0, 1, 2)]
"""


class ExamplesTest(unittest.TestCase):
    def hold(self, name, text):
        test = doctest.DocTestParser().get_doctest(text, {}, name, None, 0)
        outcome = doctest.DocTestRunner().run(test)
        self.assertEqual(outcome.failed, 0)
        self.assertGreater(outcome.attempted, 2)

    def test_machines(self):
        self.hold("machines", MACHINES)

    def test_conditions(self):
        self.hold("conditions", CONDITIONS)

    def test_readme(self):
        self.hold("readme", README.read_text().replace("```", ""))


if __name__ == "__main__":
    unittest.main()
