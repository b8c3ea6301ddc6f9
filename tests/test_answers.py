"""What all classes of answers have in common: attributes, copies, equality, shows on what the attributes are now."""

import unittest

from foldlook.choices import Cheapest, Unserved, cheapest
from foldlook.conditions import stand
from foldlook.cutting import Least, NoLeast, cut_for
from foldlook.desks import Desk
from foldlook.doubts import Bounded, Endless, doubts
from foldlook.exchanges import Settled, Unsettled, exchange
from foldlook.finding import Hits, Vain, find
from foldlook.joining import Beyond, Fits, Lacks, combine
from foldlook.looks import Exact, Misses, More, judge
from foldlook.machines import cut, mapped, plain
from foldlook.orders import Crosses, Rises, order
from foldlook.serving import Blurs, Mixed, Served, Tells, serve, tell

SMALL, WHOLE, SHORT = mapped("Aa", ("a", "a")), plain("Aa"), cut("Aa", 1)

# For each class, the names of its attributes, and two different objects' worth of them.
CLASSES = {
    Exact: (("spots",), ([(0, 0, 0, 0)],), ([],)),
    More: (("spots", "value"), ([(0, 0, 0, 0)], "A"), ([], "a")),
    Misses: (("value",), ("A",), ("a",)),
    Served: (("pairs",), ([((0, 0, 0), (0, 0, 0))],), ([],)),
    Mixed: (("one", "other"), ("A", "a"), ("", "Aa")),
    Tells: (("pairs",), ([((0, 0), (0, 0))],), ([],)),
    Blurs: (("one", "other"), ("A", "a"), ("", "Aa")),
    Rises: (("pairs",), ([((0, 0), (0, 0))],), ([],)),
    Crosses: (("one", "other"), ("A", "a"), ("", "Aa")),
    Endless: (("head", "loop", "tail"), ("A", "a", ""), ("", "A", "a")),
    Bounded: (
        ("longest", "mixed", "bounds"), (2, ("A", "a"), {((0, 0, 0),): 2, (): -1}), (None, None, {((0, 0, 0),): -1}),
    ),
    Settled: (("spots",), ([(0, 0, ((0, 0),))],), ([],)),
    Unsettled: (("value", "which"), ("A", 0), ("a", 1)),
    Cheapest: (
        ("choice", "served", "against"),
        ((0,), [(0, [((0, 0, 0), (0, 0, 0))])], {(): (0, ()), (1,): (0, (("A", "a"),))}),
        ((), [], {(): (0, ())}),
    ),
    Unserved: (("which", "mixed"), (0, [("A", "a")]), (1, [])),
    Fits: (("spots",), ([(((0, 0),), 0, 0)],), ([],)),
    Beyond: (("spots", "value"), ([(((0, 0),), 0, 0)], "A"), ([], "a")),
    Lacks: (("value",), ("A",), ("a",)),
    Vain: (("spots",), ([(0, 0)],), ([],)),
    Hits: (("value",), ("A",), ("a",)),
    Least: (("number", "pairs", "mixed"), (1, [((0, 0, 0), (0, 0, 0))], ("A", "a")), (0, [], None)),
    NoLeast: (("mixed",), (("A", "a"),), (("", "Aa"),)),
}

OFFERS = [(WHOLE, 3), (SMALL, 1), (SHORT, 1)]
FILTERS = [(WHOLE, ("begins", "A")), (SMALL, ("equal", "a")), (SHORT, ("equal", "a"))]
LOOKS = [(WHOLE, ("begins", "A")), (SHORT, ("equal", "A"))]

# For each class, arguments for which the first of two calls gives such an answer, and the second one, too.
CASES = [
    (judge, (WHOLE, ("begins", "A"), WHOLE, ("begins", "A")), Exact),
    (judge, (WHOLE, ("begins", "A"), WHOLE, ("equal", "Aa")), More),
    (judge, (WHOLE, ("equal", "Aa"), WHOLE, ("begins", "A")), Misses),
    (serve, (WHOLE, SMALL, ("equal", "a")), Served),
    (serve, (SMALL, WHOLE, ("equal", "a")), Mixed),
    (tell, (WHOLE, SMALL), Tells),
    (tell, (SMALL, WHOLE), Blurs),
    (order, (WHOLE, SHORT), Rises),
    (order, (WHOLE, SMALL), Crosses),
    (doubts, (SMALL, WHOLE, ("begins", "A")), Endless),
    (doubts, (SMALL, WHOLE, ("equal", "Aa")), Bounded),
    (exchange, (WHOLE, SMALL, [("like", "?")]), Settled),
    (exchange, (WHOLE, SMALL, [("equal", "a")]), Unsettled),
    (cheapest, (OFFERS, FILTERS), Cheapest),
    (cheapest, (OFFERS[1:], [(WHOLE, ("equal", "aA"))] + FILTERS[:1]), Unserved),
    (combine, (LOOKS, "all", WHOLE, ("begins", "A")), Fits),
    (combine, (LOOKS, "any", WHOLE, ("equal", "Aa")), Beyond),
    (combine, ([(WHOLE, ("equal", "Aa"))], "all", WHOLE, ("begins", "A")), Lacks),
    (find, (SHORT, ("equal", "Aa")), Vain),
    (find, (WHOLE, ("begins", "A")), Hits),
    (cut_for, (WHOLE, ("begins", "Aa")), Least),
    (cut_for, (WHOLE, ("like", "*A")), NoLeast),
]


def attributes(answer):
    return [getattr(answer, name) for name in CLASSES[answer.__class__][0]]


class AttributesTest(unittest.TestCase):
    def test_they_are_set_by_position_and_by_name(self):
        for kind, (names, first, second) in CLASSES.items():
            for given in (first, second):
                self.assertEqual(attributes(kind(*given)), list(given))
                self.assertEqual(attributes(kind(**dict(zip(names, given)))), list(given))

    def test_lists_and_dicts_are_copied(self):
        for kind, (names, first, _) in CLASSES.items():
            for name, given in zip(names, first):
                if isinstance(given, (list, dict)):
                    mine = given.copy()
                    answer = kind(*[mine if other is given else other for other in first])
                    self.assertIsNot(getattr(answer, name), mine)
                    mine.clear()
                    self.assertEqual(getattr(answer, name), given)
                    getattr(answer, name).clear()
                    self.assertEqual(mine, given.__class__())
                    # What is changed in the attribute does not change what was handed in, either.
                    mine = given.copy()
                    getattr(kind(*[mine if other is given else other for other in first]), name).clear()
                    self.assertEqual(mine, given)

    def test_the_lists_within_served_are_copied(self):
        given = [(0, [((0, 0, 0), (0, 0, 0))]), (1, [])]
        answer = Cheapest((0, 1), given, {})
        self.assertEqual(answer.served, given)
        given[0][1].clear()
        given[1][1].append(1)
        self.assertEqual(answer.served, [(0, [((0, 0, 0), (0, 0, 0))]), (1, [])])
        # Each object has its own.
        one, other = cheapest(OFFERS, FILTERS), cheapest(OFFERS, FILTERS)
        again = Cheapest(one.choice, one.served, one.against)
        one.served[0][1].clear()
        self.assertIs(one.shows(OFFERS, FILTERS), False)
        self.assertNotEqual(one, other)
        for answer in (other, again, cheapest(OFFERS, FILTERS)):
            self.assertEqual(answer, other)
            self.assertIs(answer.shows(OFFERS, FILTERS), True)
        # So has each filter, if two of them are the same.
        twice = cheapest(OFFERS, FILTERS[:1] * 2)
        self.assertIsNot(twice.served[0][1], twice.served[1][1])

    def test_what_is_told_is_new(self):
        for call, given, kind in CASES:
            one, other = call(*given), call(*given)
            self.assertIs(one.__class__, kind)
            self.assertIsNot(one, other)
            self.assertEqual(one, other)
            for told in attributes(one):
                if isinstance(told, (list, dict)):
                    told.clear()
                    self.assertNotEqual(one, other)
                    self.assertIs(one.shows(*given), False)
            self.assertEqual(call(*given), other)
            self.assertIs(other.shows(*given), True)


class EqualityTest(unittest.TestCase):
    def test_of_one_class(self):
        for kind, (names, first, second) in CLASSES.items():
            self.assertTrue(kind(*first) == kind(*first))
            self.assertFalse(kind(*first) != kind(*first))
            self.assertFalse(kind(*first) == kind(*second))
            self.assertTrue(kind(*first) != kind(*second))
            # Each attribute counts.
            for at in range(len(names)):
                near = first[:at] + second[at:at + 1] + first[at + 1:]
                self.assertIs(kind(*near) == kind(*first), False, (kind, at))
                self.assertIs(kind(*first) == kind(*near), False, (kind, at))

    def test_the_order_of_lists_counts_and_that_of_dicts_does_not(self):
        self.assertNotEqual(Exact([(0, 0, 0, 0), (0, 1, 0, 1)]), Exact([(0, 1, 0, 1), (0, 0, 0, 0)]))
        self.assertNotEqual(Served([1, 1]), Served([1]))
        self.assertEqual(Bounded(None, None, {(): -1, (1,): 0}), Bounded(None, None, {(1,): 0, (): -1}))
        one, other = (0, ()), (1, (("A", "a"),))
        self.assertEqual(Cheapest((0,), [], {(): one, (1,): other}), Cheapest((0,), [], {(1,): other, (): one}))
        self.assertNotEqual(Unserved(0, [("A", "a"), ("", "a")]), Unserved(0, [("", "a"), ("A", "a")]))

    def test_of_different_classes(self):
        objects = [kind(*first) for kind, (_, first, _) in CLASSES.items()]
        objects += [kind(*second) for kind, (_, _, second) in CLASSES.items()] + [WHOLE, SMALL, Desk(WHOLE)]
        for at, one in enumerate(objects):
            for place, other in enumerate(objects):
                self.assertIs(one == other, at == place)
                self.assertIs(one != other, at != place)


class NowTest(unittest.TestCase):
    def test_shows_takes_the_attributes_as_they_are_now(self):
        for call, given, kind in CASES:
            for name in CLASSES[kind][0]:
                answer = call(*given)
                right = getattr(answer, name)
                self.assertIs(answer.shows(*given), True)
                for wrong in wrong_attributes(right):
                    setattr(answer, name, wrong)
                    self.assertIs(answer.shows(*given), False, (kind, name, wrong))
                    self.assertNotEqual(answer, call(*given))
                setattr(answer, name, right)
                self.assertIs(answer.shows(*given), True)

    def test_a_wrong_answer_that_is_put_right(self):
        for call, given, kind in CASES:
            answer, good = kind(*CLASSES[kind][2]), call(*given)
            self.assertIs(answer.shows(*given), False, kind)
            for name in CLASSES[kind][0]:
                setattr(answer, name, getattr(good, name))
            self.assertIs(answer.shows(*given), True)

    def test_shows_changes_nothing(self):
        for call, given, kind in CASES:
            answer = call(*given)
            before = [told.copy() if isinstance(told, (list, dict)) else told for told in attributes(answer)]
            self.assertIs(answer.shows(*given), True)
            self.assertIs(answer.shows(*given), True)
            self.assertEqual(attributes(answer), before)

    def test_it_asks_of_the_arguments_given(self):
        # Evidence for one case shows nothing for another one.
        self.assertIs(judge(*CASES[0][1]).shows(WHOLE, ("begins", "a"), WHOLE, ("begins", "A")), False)
        self.assertIs(serve(*CASES[3][1]).shows(SMALL, WHOLE, ("equal", "a")), False)
        self.assertIs(tell(*CASES[5][1]).shows(SMALL, WHOLE), False)
        self.assertIs(order(*CASES[7][1]).shows(WHOLE, SMALL), False)
        self.assertIs(doubts(*CASES[9][1]).shows(WHOLE, SMALL, ("begins", "a")), False)
        self.assertIs(doubts(*CASES[10][1]).shows(SMALL, WHOLE, ("begins", "A")), False)
        self.assertIs(exchange(*CASES[11][1]).shows(WHOLE, SMALL, [("equal", "a")]), False)
        self.assertIs(cheapest(*CASES[13][1]).shows(OFFERS[:1], FILTERS), False)
        self.assertIs(combine(*CASES[15][1]).shows(LOOKS, "any", WHOLE, ("equal", "A")), False)
        self.assertIs(find(*CASES[18][1]).shows(WHOLE, ("equal", "Aa")), False)
        self.assertIs(cut_for(*CASES[20][1]).shows(WHOLE, ("begins", "aA")), False)


def wrong_attributes(right):
    """What an attribute is assigned so that the answer of CASES is wrong."""
    if isinstance(right, list):
        return [[], right[1:] + [right[0] + (0,)], [()] + right]
    if isinstance(right, dict):
        return [{}, {key: worth + (1 if isinstance(worth, int) else (0,)) for key, worth in right.items()}]
    if isinstance(right, str):
        return [None, "b", right + "?"]
    if isinstance(right, tuple):
        return [None, right[::-1], right + ("",), ("", "")]
    return [None, right + 1, -1, True]


class KindsTest(unittest.TestCase):
    def test_kinds_of_values(self):
        for call, given, kind in CASES:
            for told, right in zip(attributes(call(*given)), CLASSES[kind][1]):
                self.assertIs(told.__class__, right.__class__, kind)
        found = doubts(*CASES[10][1])
        self.assertEqual([number.__class__ for number in found.bounds.values()], [int] * len(found.bounds))
        self.assertEqual({cloud.__class__ for cloud in found.bounds}, {tuple})
        self.assertEqual(found.bounds[((0, 0, stand(WHOLE, ("equal", "Aa"), "")),)], 2)
        for call, given, _ in CASES:
            self.assertIs(call(*given).shows(*given).__class__, bool)


if __name__ == "__main__":
    unittest.main()
