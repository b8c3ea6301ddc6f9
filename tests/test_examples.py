"""The examples of the interface, just as they stand in the document, and those of README.md."""

import doctest
import pathlib
import unittest

README = pathlib.Path(__file__).resolve().parent.parent / "README.md"

MACHINES = """
>>> from foldlook.machines import Machine, behind, cut, mapped, squeezed, stripped
>>> small, short = mapped('aAbB', ('a', 'a', 'b', 'b')), cut('aAbB', 2)
>>> [small.made('AbB'), short.made('AbB'), behind(small, short).made('AbB'), len(behind(small, short)), stripped('_ab', '_').made('__a_'), squeezed('_ab', '_').made('__a__'), Machine('ab', (((0, ''), (0, 'b')),)).made('abab')]
['abb', 'Ab', 'ab', 3, 'a_', '_a_', 'bb']
"""

CONDITIONS = """
>>> from foldlook.conditions import meets, stand
>>> from foldlook.machines import plain
>>> whole = plain('abc')
>>> [meets(whole, ('begins', 'ab'), 'abc'), meets(whole, ('between', 'ab', 'b'), 'ba'), meets(whole, ('like', '*c?'), 'abca'), stand(whole, ('between', 'ab', 'b'), 'ac'), stand(whole, ('like', '*c'), 'ac')]
[True, False, True, (-2, -1), (0, 1, 2)]
"""

LOOKS = """
>>> from foldlook.looks import Misses, found_in, judge, shortest_unlike
>>> from foldlook.machines import cut, plain
>>> short, whole = cut('ab', 2), plain('ab')
>>> [shortest_unlike(short, ('equal', 'ab'), whole, ('equal', 'ab')), judge(short, ('begins', 'a'), whole, ('begins', 'a')).shows(short, ('begins', 'a'), whole, ('begins', 'a')), Misses('aba').shows(short, ('equal', 'aba'), whole, ('begins', 'aba')), found_in(short, ('equal', 'ab'), ['ab', 'abb', 'a'])]
[(None, 3), True, True, ['ab', 'abb']]
"""

SERVING = """
>>> from foldlook.machines import mapped, plain
>>> from foldlook.serving import Blurs, can_serve, does_tell, least_blurred, least_mixed
>>> small, whole = mapped('Aa', ('a', 'a')), plain('Aa')
>>> [can_serve(small, whole, ('equal', 'a')), least_mixed(small, whole, ('equal', 'a')), can_serve(small, whole, ('like', '??')), does_tell(small, whole), least_blurred(small, whole), Blurs('A', 'a').shows(small, whole)]
[False, 2, True, False, 2, True]
"""

ORDERS = """
>>> from foldlook.machines import cut, mapped, plain
>>> from foldlook.orders import Crosses, keeps_order
>>> small, whole = mapped('Aa', ('a', 'a')), plain('Aa')
>>> [keeps_order(whole, cut('Aa', 1)), keeps_order(small, whole), keeps_order(whole, small), Crosses('AA', 'a').shows(whole, small)]
[True, False, False, True]
"""

DOUBTS = """
>>> from foldlook.doubts import count_doubtful, doubts, is_doubtful
>>> from foldlook.machines import cut, mapped, plain
>>> small, whole, short = mapped('Aa', ('a', 'a')), plain('Aa'), cut('Aa', 1)
>>> found, late = doubts(small, whole, ('equal', 'Aa')), doubts(small, whole, ('begins', 'A'))
>>> [found.longest, is_doubtful(small, whole, ('equal', 'Aa'), 'aa'), late.shows(small, whole, ('begins', 'A')), [count_doubtful(small, whole, ('begins', 'A'), size) for size in range(4)], [count_doubtful(short, whole, ('equal', 'Aa'), size) for size in range(3)]]
[2, True, True, [0, 1, 1, 1], [0, 1, 0]]
"""


class ExamplesTest(unittest.TestCase):
    def hold(self, name, text):
        test = doctest.DocTestParser().get_doctest(text, {}, name, None, 0)
        outcome = doctest.DocTestRunner().run(test)
        self.assertEqual(outcome.failed, 0)
        self.assertGreater(outcome.attempted, 2)

    def test_machines(self):
        self.hold("machines", MACHINES)

    def test_conditions(self):
        self.hold("conditions", CONDITIONS)

    def test_looks(self):
        self.hold("looks", LOOKS)

    def test_serving(self):
        self.hold("serving", SERVING)

    def test_orders(self):
        self.hold("orders", ORDERS)

    def test_doubts(self):
        self.hold("doubts", DOUBTS)

    def test_readme(self):
        self.hold("readme", README.read_text().replace("```", ""))


if __name__ == "__main__":
    unittest.main()
