"""The examples of the interface, just as they stand in the document, and those of README.md."""

import doctest
import pathlib
import unittest

README = pathlib.Path(__file__).resolve().parent.parent / "README.md"

MACHINES = """
>>> from foldlook.machines import Machine, behind, cut, mapped, squeezed, stripped
>>> small, short = mapped('aAbB', ('a', 'a', 'b', 'b')), cut('aAbB', 2)
>>> [small.made('AbB'), short.made('AbB'), behind(small, short).made('AbB'), len(behind(small, short)), stripped('_ab', '_').made('__a_'), squeezed('_ab', '_').made('__a__'), Machine('ab', (((0, ''), (0, 'b')),)).made('abab')]
['abb', 'Ab', 'ab', 3, 'a_', '_a_', 'bb']
"""

CONDITIONS = """
>>> from foldlook.conditions import meets, stand
>>> from foldlook.machines import plain
>>> whole = plain('abc')
>>> [meets(whole, ('begins', 'ab'), 'abc'), meets(whole, ('between', 'ab', 'b'), 'ba'), meets(whole, ('like', '*c?'), 'abca'), stand(whole, ('between', 'ab', 'b'), 'ac'), stand(whole, ('like', '*c'), 'ac')]
[True, False, True, (-2, -1), (0, 1, 2)]
"""

LOOKS = """
>>> from foldlook.looks import Misses, found_in, judge, shortest_unlike
>>> from foldlook.machines import cut, plain
>>> short, whole = cut('ab', 2), plain('ab')
>>> [shortest_unlike(short, ('equal', 'ab'), whole, ('equal', 'ab')), judge(short, ('begins', 'a'), whole, ('begins', 'a')).shows(short, ('begins', 'a'), whole, ('begins', 'a')), Misses('aba').shows(short, ('equal', 'aba'), whole, ('begins', 'aba')), found_in(short, ('equal', 'ab'), ['ab', 'abb', 'a'])]
[(None, 3), True, True, ['ab', 'abb']]
"""

SERVING = """
>>> from foldlook.machines import mapped, plain
>>> from foldlook.serving import Blurs, can_serve, does_tell, least_blurred, least_mixed
>>> small, whole = mapped('Aa', ('a', 'a')), plain('Aa')
>>> [can_serve(small, whole, ('equal', 'a')), least_mixed(small, whole, ('equal', 'a')), can_serve(small, whole, ('like', '??')), does_tell(small, whole), least_blurred(small, whole), Blurs('A', 'a').shows(small, whole)]
[False, 2, True, False, 2, True]
"""

ORDERS = """
>>> from foldlook.machines import cut, mapped, plain
>>> from foldlook.orders import Crosses, keeps_order
>>> small, whole = mapped('Aa', ('a', 'a')), plain('Aa')
>>> [keeps_order(whole, cut('Aa', 1)), keeps_order(small, whole), keeps_order(whole, small), Crosses('AA', 'a').shows(whole, small)]
[True, False, False, True]
"""

DOUBTS = """
>>> from foldlook.doubts import count_doubtful, doubts, is_doubtful
>>> from foldlook.machines import cut, mapped, plain
>>> small, whole, short = mapped('Aa', ('a', 'a')), plain('Aa'), cut('Aa', 1)
>>> found, late = doubts(small, whole, ('equal', 'Aa')), doubts(small, whole, ('begins', 'A'))
>>> [found.longest, is_doubtful(small, whole, ('equal', 'Aa'), 'aa'), late.shows(small, whole, ('begins', 'A')), [count_doubtful(small, whole, ('begins', 'A'), size) for size in range(4)], [count_doubtful(short, whole, ('equal', 'Aa'), size) for size in range(3)]]
[2, True, True, [0, 1, 1, 1], [0, 1, 0]]
"""

EXCHANGES = """
>>> from foldlook.exchanges import count_rewrites, exchange, must_rewrite, shortest_rewrite
>>> from foldlook.machines import mapped, plain
>>> elder, newer = plain('Aa'), mapped('Aa', ('a', 'a'))
>>> asks = [('equal', 'a')]
>>> [shortest_rewrite(elder, newer, asks), must_rewrite(elder, newer, asks, 'A'), must_rewrite(elder, newer, asks, 'AA'), [count_rewrites(elder, newer, asks, size) for size in range(3)], exchange(elder, newer, [('like', '?')]).shows(elder, newer, [('like', '?')])]
[1, True, False, [0, 1, 0], True]
"""

CHOICES = """
>>> from foldlook.choices import cheapest, choices, least_price
>>> from foldlook.machines import mapped, plain
>>> whole, small = plain('Aa'), mapped('Aa', ('a', 'a'))
>>> offers = [(whole, 3), (small, 1)]
>>> [choices(offers), least_price(offers, [(small, ('equal', 'a'))]), cheapest(offers, [(whole, ('equal', 'a')), (small, ('equal', 'a'))]).choice, cheapest([(small, 1)], [(whole, ('begins', 'A'))]).which]
[[(), (1,), (0,), (0, 1)], 1, (0,), 0]
"""

DESKS = """
>>> from foldlook.desks import Desk
>>> from foldlook.machines import mapped, plain
>>> desk = Desk(plain('Aa'))
>>> rows = [desk.put('Aa'), desk.put('aa')]
>>> elder = desk.adopt(mapped('Aa', ('a', 'a')))
>>> [rows, desk.ask(('equal', 'aa')), desk.stale(), desk.renew(0), desk.ask(('equal', 'aa')), desk.entries, desk.undo(), len(desk), elder == plain('Aa')]
[[0, 1], [1], [0], 'aa', [0, 1], [(0, 'Aa', 'aa'), (1, 'aa', 'aa')], ('renew', 0), 2, True]
"""

TEXTS = r"""
>>> from foldlook.machines import cut
>>> from foldlook.texts import condition_text, machine_text, read_condition, read_machine
>>> text = machine_text(cut('ab', 1))
>>> [text, read_machine(text) == cut('ab', 1), condition_text('ab', ('between', 'ab', '')), read_condition('ab', 'like a?*\n')]
['letters ab\nstate 1a 1b\nstate 1- 1-\n', True, 'between ab -\n', ('like', 'a?*')]
"""

JOINING = """
>>> from foldlook.joining import Lacks, combine, fits, shortest_apart
>>> from foldlook.machines import cut, plain
>>> whole, short = plain('ab'), cut('ab', 1)
>>> looks = [(whole, ('like', '?b')), (short, ('equal', 'a'))]
>>> [[shortest_apart(looks, way, whole, ('equal', 'ab')) for way in ('all', 'any')], fits(looks, 'all', whole, ('equal', 'ab')), Lacks('a').shows(looks, 'all', whole, ('begins', 'a')), combine(looks, 'any', whole, ('begins', 'a')).value]
[[(None, None), (None, 1)], True, True, 'bb']
"""

FINDING = """
>>> from foldlook.finding import Vain, find, finds_all, is_vain, shortest_hit
>>> from foldlook.machines import cut, plain, stripped
>>> short, whole = cut('ab', 2), plain('ab')
>>> [[is_vain(short, question) for question in (('equal', 'aba'), ('equal', 'ab'))], is_vain(stripped('ab', 'a'), ('begins', 'a')), shortest_hit(short, ('like', '?b')), [finds_all(cut('ab', 0), ('equal', '')), finds_all(whole, ('begins', 'a'))], find(short, ('equal', 'aba')).shows(short, ('equal', 'aba')), Vain([]).shows(short, ('equal', 'aba'))]
[[True, False], True, 2, [True, False], True, False]
"""

CUTTING = """
>>> from foldlook.cutting import Least, NoLeast, cut_for, least_cut
>>> from foldlook.machines import plain
>>> whole = plain('ab')
>>> conditions = [('begins', 'ab'), ('equal', 'ab'), ('like', '*b'), ('between', 'a', 'b')]
>>> [[least_cut(whole, condition) for condition in conditions], cut_for(whole, conditions[0]).shows(whole, conditions[0]), NoLeast(('aaaaab', 'aaaaa')).shows(whole, conditions[2]), Least(2, [], ('ab', 'a')).shows(whole, conditions[0])]
[[2, 3, None, 2], True, True, False]
"""


class ExamplesTest(unittest.TestCase):
    def hold(self, name, text):
        test = doctest.DocTestParser().get_doctest(text, {}, name, None, 0)
        outcome = doctest.DocTestRunner().run(test)
        self.assertEqual(outcome.failed, 0)
        self.assertGreater(outcome.attempted, 2)

    def test_machines(self):
        self.hold("machines", MACHINES)

    def test_conditions(self):
        self.hold("conditions", CONDITIONS)

    def test_looks(self):
        self.hold("looks", LOOKS)

    def test_serving(self):
        self.hold("serving", SERVING)

    def test_orders(self):
        self.hold("orders", ORDERS)

    def test_doubts(self):
        self.hold("doubts", DOUBTS)

    def test_exchanges(self):
        self.hold("exchanges", EXCHANGES)

    def test_choices(self):
        self.hold("choices", CHOICES)

    def test_desks(self):
        self.hold("desks", DESKS)

    def test_texts(self):
        self.hold("texts", TEXTS)

    def test_joining(self):
        self.hold("joining", JOINING)

    def test_finding(self):
        self.hold("finding", FINDING)

    def test_cutting(self):
        self.hold("cutting", CUTTING)

    def test_readme(self):
        self.hold("readme", README.read_text().replace("```", ""))


if __name__ == "__main__":
    unittest.main()
