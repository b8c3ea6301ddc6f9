"""The cheapest indexes ([11]): which of the indexes on offer serve a list of filters at the least price."""

import copy
import random
import unittest
from itertools import combinations

import slow
from foldlook.choices import Cheapest, Unserved, cheapest, choices, least_price
from foldlook.errors import BadFilters, BadOffers, TooLarge
from foldlook.machines import Machine, cut, mapped, plain, stripped
from foldlook.serving import Served, can_serve, serve
from helper import (
    NOT_CONDITIONS, NOT_GROUPS, NOT_MACHINES, NOT_VALUES, caught, drawn_condition, drawn_machine, ready_machines, texts,
)
from large import MIXED_400, MIXED_401

SMALL, WHOLE, SHORT = mapped("Aa", ("a", "a")), plain("Aa"), cut("Aa", 1)
AB = plain("ab")

# The second and the third offer serve together, for less than the first one alone.
OFFERS = [(WHOLE, 3), (SMALL, 1), (SHORT, 1)]
FILTERS = [(WHOLE, ("begins", "A")), (SMALL, ("equal", "a")), (SHORT, ("equal", "a"))]


def drawn_offers(chance):
    """Offers, some of them equal, and filters for them."""
    letters = chance.choice(["ab", "ba", "Aa"])
    ready = ready_machines(letters)
    offers = [(chance.choice(ready), chance.randint(1, 9)) for _ in range(chance.randint(1, 5))]
    for at in range(len(offers)):
        if chance.randrange(4) == 0:
            offers[at] = (drawn_machine(chance, letters, 2, 3), offers[at][1])
        elif chance.randrange(4) == 0:
            offers[at] = chance.choice([chance.choice(offers), (offers[at][0], chance.choice(offers)[1])])
    filters = []
    for _ in range(chance.randint(1, 4)):
        machine = chance.choice(ready + [index for index, _ in offers] * 3)
        filters.append((machine, drawn_condition(chance, letters, 2)))
    return offers, filters


def cost(offers, choice):
    return sum(offers[index][1] for index in choice)


def every_choice(offers):
    """All choices, in no order."""
    return [some for many in range(len(offers) + 1) for some in combinations(range(len(offers)), many)]


def can_choose(offers, filters, choice):
    """Whether a choice serves."""
    return all(any(can_serve(offers[index][0], *asked) for index in choice) for asked in filters)


def is_index(most, thing):
    return isinstance(thing, int) and not isinstance(thing, bool) and 0 <= thing < most


def are_mixed(machines, asked, pairs):
    """Whether there is for each machine a pair of values that shows that it does not serve a filter."""
    good = [isinstance(pair, tuple) and len(pair) == 2 for pair in pairs]
    if not all(good) or len(machines) != len(pairs):
        return False
    values = [value for pair in pairs for value in pair]
    if any(not isinstance(value, str) or value.strip(asked[0].letters) for value in values):
        return False
    return all(slow.is_mixed(index, *asked, *pair) for index, pair in zip(machines, pairs))


def is_right(offers, filters, answer):
    """Whether a Cheapest is right, from the words of [11] alone."""
    choice, against = answer.choice, answer.against
    if not isinstance(choice, tuple) or not all(is_index(len(offers), index) for index in choice):
        return False
    if choice not in every_choice(offers) or len(answer.served) != len(filters):
        return False
    for asked, (index, pairs) in zip(filters, answer.served):
        if isinstance(index, bool) or index not in choice or not Served(pairs).shows(offers[index][0], *asked):
            return False
    cheaper = [some for some in every_choice(offers) if cost(offers, some) < cost(offers, choice)]
    if sorted(against) != sorted(cheaper) or any(isinstance(index, bool) for some in against for index in some):
        return False
    for some, (which, pairs) in against.items():
        machines = [offers[index][0] for index in some]
        if not is_index(len(filters), which) or not are_mixed(machines, filters[which], pairs):
            return False
    return True


class ChoicesTest(unittest.TestCase):
    def test_examples(self):
        self.assertEqual(choices([(WHOLE, 9)]), [(), (0,)])
        self.assertEqual(choices([(WHOLE, 2), (SMALL, 2)]), [(), (0,), (1,), (0, 1)])
        # Two that cost 1 and 2 cost as much as one of 3; then (0, 1) comes ahead of (2,).
        self.assertEqual(
            choices([(WHOLE, 1), (SMALL, 2), (SHORT, 3)]),
            [(), (0,), (1,), (0, 1), (2,), (0, 2), (1, 2), (0, 1, 2)],
        )
        self.assertEqual(
            choices([(WHOLE, 9), (WHOLE, 1), (WHOLE, 1)]),
            [(), (1,), (2,), (1, 2), (0,), (0, 1), (0, 2), (0, 1, 2)],
        )

    def test_against_all_of_them(self):
        chance = random.Random(11)
        for _ in range(200):
            offers = [(WHOLE, chance.choice([1, 2, 3, 9])) for _ in range(chance.randint(1, 5))]
            found = choices(offers)
            self.assertEqual(len(found), 1 << len(offers))
            self.assertEqual(sorted(found), sorted(every_choice(offers)))
            for one, other in zip(found, found[1:]):
                self.assertLess((cost(offers, one), one), (cost(offers, other), other))
            self.assertEqual(choices(tuple(offers)), found)
            self.assertEqual([choice.__class__ for choice in found], [tuple] * len(found))

    def test_the_list_is_new(self):
        found = choices(OFFERS)
        found.clear()
        self.assertEqual(len(choices(OFFERS)), 8)


class CheapestTest(unittest.TestCase):
    def test_each_answer(self):
        found = cheapest(OFFERS, FILTERS)
        self.assertEqual((found.__class__, found.choice), (Cheapest, (1, 2)))
        self.assertEqual([index for index, _ in found.served], [2, 1, 2])
        self.assertEqual(list(found.against), [(), (1,), (2,)])
        self.assertEqual(least_price(OFFERS, FILTERS), 2)
        found = cheapest(OFFERS[1:], [(WHOLE, ("begins", "A")), (WHOLE, ("equal", "aA"))])
        self.assertEqual((found.__class__, found.which, len(found.mixed)), (Unserved, 1, 2))
        self.assertIsNone(least_price(OFFERS[1:], [(WHOLE, ("begins", "A")), (WHOLE, ("equal", "aA"))]))

    def test_a_dear_one_that_serves_alone(self):
        self.assertEqual(cheapest([(WHOLE, 9), (SHORT, 8)], [(WHOLE, ("equal", "Aa"))]).choice, (0,))
        self.assertEqual(cheapest([(WHOLE, 9), (WHOLE, 8)], [(WHOLE, ("equal", "Aa"))]).choice, (1,))
        self.assertEqual(least_price([(WHOLE, 2), (SMALL, 2), (SHORT, 1)], FILTERS), 2)
        self.assertEqual(least_price([(SHORT, 5), (SMALL, 5), (WHOLE, 9)], FILTERS), 9)
        self.assertEqual(least_price([(SHORT, 5), (SMALL, 3), (WHOLE, 9)], FILTERS), 8)

    def test_against_all_choices(self):
        chance = random.Random(110)
        seen = {Cheapest: 0, Unserved: 0}
        sizes, equal = set(), 0
        for _ in range(400):
            offers, filters = drawn_offers(chance)
            try:
                serving = [some for some in every_choice(offers) if can_choose(offers, filters, some)]
                answer = cheapest(offers, filters)
            except TooLarge:
                continue
            price = min((cost(offers, some) for some in serving), default=None)
            self.assertIs(answer.__class__, Unserved if price is None else Cheapest, (offers, filters))
            self.assertEqual(least_price(offers, filters), price)
            self.assertIs(answer.shows(offers, filters), True)
            seen[answer.__class__] += 1
            sizes.add((len(offers), len(filters)))
            equal += any(one == other for one, other in combinations(offers, 2))
            if price is None:
                machines = [machine for machine, _ in offers]
                self.assertTrue(are_mixed(machines, filters[answer.which], answer.mixed))
            else:
                self.assertIn(answer.choice, serving)
                self.assertEqual(cost(offers, answer.choice), price)
                self.assertTrue(is_right(offers, filters, answer), (offers, filters))
                cheaper = [some for some in choices(offers) if cost(offers, some) < price]
                self.assertEqual(list(answer.against), cheaper)
        self.assertTrue(all(many > 50 for many in seen.values()), seen)
        self.assertEqual(len(sizes), 20)
        self.assertGreater(equal, 20)

    def test_kinds_of_values(self):
        found = cheapest(OFFERS, FILTERS)
        self.assertIs(found.choice.__class__, tuple)
        self.assertIs(found.served.__class__, list)
        self.assertIs(found.against.__class__, dict)
        for index, pairs in found.served:
            self.assertEqual((index.__class__, pairs.__class__, pairs[0].__class__), (int, list, tuple))
        self.assertEqual([pair.__class__ for pair in found.served], [tuple] * 3)
        for choice, (which, pairs) in found.against.items():
            self.assertEqual((choice.__class__, which.__class__, pairs.__class__), (tuple, int, tuple))
            self.assertEqual([(pair.__class__, len(pair)) for pair in pairs], [(tuple, 2)] * len(choice))
        found = cheapest([(SMALL, 1)], [(WHOLE, ("begins", "A"))])
        self.assertEqual((found.which, found.mixed.__class__, found.mixed[0].__class__), (0, list, tuple))

    def test_lists_and_tuples(self):
        for kind in (list, tuple):
            for other in (list, tuple):
                offers, filters = kind(OFFERS), other(FILTERS)
                self.assertEqual(cheapest(offers, filters), cheapest(OFFERS, FILTERS))
                self.assertIs(cheapest(offers, filters).shows(offers, filters), True)
                self.assertEqual(least_price(offers, filters), 2)
                self.assertEqual((offers, filters), (kind(OFFERS), other(FILTERS)))
                offers = kind([(SMALL, 1)])
                self.assertIs(cheapest(offers, filters).shows(offers, filters), True)


class CheapestShowsTest(unittest.TestCase):
    def setUp(self):
        self.found = cheapest(OFFERS, FILTERS)

    def hold(self, right, choice=None, served=None, against=None):
        """What is not given is as in the answer that is told."""
        answer = copy.copy(self.found)
        answer.choice = self.found.choice if choice is None else choice
        answer.served = self.found.served if served is None else served
        answer.against = self.found.against if against is None else against
        self.assertIs(answer.shows(OFFERS, FILTERS), right, (choice, served, against))
        self.assertIs(is_right(OFFERS, FILTERS, answer), right)

    def test_what_is_told(self):
        self.hold(True)

    def test_another_choice_of_the_same_cost(self):
        offers = [(WHOLE, 2), (SMALL, 1), (SHORT, 1), (WHOLE, 2)]
        told = cheapest(offers, FILTERS)
        for choice in ((0,), (1, 2), (3,)):
            served = []
            for asked in FILTERS:
                index = [at for at in choice if can_serve(offers[at][0], *asked)][0]
                served.append((index, serve(offers[index][0], *asked).pairs))
            answer = Cheapest(choice, served, told.against)
            self.assertTrue(is_right(offers, FILTERS, answer))
            self.assertIs(answer.shows(offers, FILTERS), True)

    def test_another_offer_of_the_choice(self):
        # The third filter can be served by the offer of the second one, too, if that keeps all.
        offers = [(SHORT, 1), (WHOLE, 1), (WHOLE, 1)]
        filters = [(WHOLE, ("equal", "aa")), (WHOLE, ("begins", "A"))]
        told = cheapest(offers, filters)
        self.assertEqual(told.choice, (1,))
        pairs = [serve(WHOLE, *asked).pairs for asked in filters]
        for index, right in ((1, True), (0, False), (2, False), (True, False), (None, False), (3, False), (-1, False)):
            answer = Cheapest((1,), [(1, pairs[0]), (index, pairs[1])], told.against)
            self.assertIs(answer.shows(offers, filters), right, index)

    def test_a_choice_that_costs_more(self):
        pairs = [serve(WHOLE, *asked).pairs for asked in FILTERS]
        for choice in ((0,), (0, 1), (0, 2), (0, 1, 2)):
            served = [(0, found) for found in pairs]
            self.hold(False, choice=choice, served=served)
            against = {some: self.found.against.get(some, (0, ())) for some in choices(OFFERS)}
            self.hold(False, choice=choice, served=served, against=against)
        self.hold(False, choice=(0, 1, 2))

    def test_a_choice_that_does_not_serve(self):
        against = self.found.against
        for choice in ((), (1,), (2,)):
            cheaper = {some: against[some] for some in against if cost(OFFERS, some) < cost(OFFERS, choice)}
            self.hold(False, choice=choice, against=cheaper)
            for index in (0, 1, 2):
                pairs = [(index, serve(WHOLE, *asked).pairs) for asked in FILTERS]
                self.hold(False, choice=choice, served=pairs, against=cheaper)

    def test_what_is_no_choice(self):
        for wrong in ((2, 1), (1, 1, 2), (1, 2, 2), (1, 2, 3), (-2, -1), (-1, 1, 2), (1, 3), (True, 2), (1, 2, None)):
            self.hold(False, choice=wrong)
        self.assertEqual(self.found.choice, (1, 2))
        for wrong in ((1,), (2,), (0, 1), (0, 2), (0, 1, 2), ("1", "2"), ((1,), (2,))):
            self.hold(False, choice=wrong)

    def test_true_in_a_choice_that_is_right_otherwise(self):
        offers = [(SMALL, 2), (WHOLE, 1)]
        filters = [(WHOLE, ("equal", "a"))]
        told = cheapest(offers, filters)
        self.assertEqual((told.choice, list(told.against)), ((1,), [()]))
        self.assertIs(Cheapest((True,), told.served, told.against).shows(offers, filters), False)
        offers = [(WHOLE, 1), (SMALL, 2)]
        told = cheapest(offers, filters)
        self.assertEqual(told.choice, (0,))
        self.assertIs(Cheapest((False,), told.served, told.against).shows(offers, filters), False)
        served = [(False, told.served[0][1])]
        self.assertIs(Cheapest((0,), served, told.against).shows(offers, filters), False)
        against = {(): (False, ())}
        self.assertIs(Cheapest((0,), told.served, {(): (0, ())}).shows(offers, filters), True)
        self.assertIs(Cheapest((0,), told.served, against).shows(offers, filters), False)

    def test_indices_from_the_end(self):
        # They find an offer, or a filter, but are no indices.
        offers, filters = [(WHOLE, 1)], [(WHOLE, ("equal", "a"))]
        told = cheapest(offers, filters)
        pairs = told.served[0][1]
        for choice, index, which in (((0,), 0, -1), ((0,), -1, 0), ((-1,), 0, 0), ((-1,), -1, 0), ((-1,), -1, -1)):
            answer = Cheapest(choice, [(index, pairs)], {(): (which, ())})
            self.assertIs(answer.shows(offers, filters), False)
        self.assertIs(Cheapest((0,), [(0, pairs)], {(): (0, ())}).shows(offers, filters), True)
        offers.append((SMALL, 2))
        self.assertIs(Cheapest((0,), [(0, pairs)], {(): (0, ())}).shows(offers, filters), True)
        offers = [(WHOLE, 2), (SMALL, 1)]
        told = cheapest(offers, [(WHOLE, ("equal", "a"))])
        self.assertEqual((told.choice, list(told.against)), ((0,), [(), (1,)]))
        against = {(): told.against[()], (-1,): told.against[(1,)]}
        self.assertIs(Cheapest((0,), told.served, against).shows(offers, filters), False)

    def test_true_in_a_cheaper_choice(self):
        offers = [(WHOLE, 3), (SMALL, 1)]
        filters = [(WHOLE, ("equal", "a")), (WHOLE, ("equal", "A"))]
        told = cheapest(offers, filters)
        self.assertEqual(list(told.against), [(), (1,)])
        against = {(): told.against[()], (True,): told.against[(1,)]}
        self.assertIs(Cheapest(told.choice, told.served, against).shows(offers, filters), False)

    def test_served_with_a_pair_too_few_or_too_many(self):
        served = self.found.served
        self.hold(False, served=[])
        for at in range(3):
            self.hold(False, served=served[:at] + served[at + 1:])
            self.hold(False, served=served[:at] + served[at:at + 1] + served[at:])
        self.hold(False, served=served + [(1, [])])
        self.hold(False, served=served[::-1])

    def test_served_by_what_does_not(self):
        served = self.found.served
        for at, (right, pairs) in enumerate(served):
            for index in (-2, -1, 0, 1, 2, 3, 10 ** 20, True, False):
                if index != right or isinstance(index, bool):
                    self.hold(False, served=served[:at] + [(index, pairs)] + served[at + 1:])

    def test_served_with_pairs_that_do_not_show_it(self):
        served = self.found.served
        for at, (index, pairs) in enumerate(served):
            self.hold(True, served=served[:at] + [(index, pairs[::-1] + pairs)] + served[at + 1:])
            for place in range(len(pairs)):
                short = pairs[:place] + pairs[place + 1:]
                self.hold(False, served=served[:at] + [(index, short)] + served[at + 1:])
            leg = (0, 0, 0)
            for wrong in ([], pairs + [()], pairs + [pairs[0][0]], [(leg, leg)], pairs + [((9, 9, 9),) * 2]):
                self.hold(False, served=served[:at] + [(index, wrong)] + served[at + 1:])
        # Those of another filter.
        self.hold(False, served=[served[2], served[1], served[0]])
        self.hold(False, served=[served[0], (1, served[0][1]), served[2]])
        self.hold(False, served=[served[0], served[1], (2, served[1][1])])

    def test_against_in_another_order(self):
        against = self.found.against
        for order in ([(2,), (1,), ()], [(1,), (), (2,)]):
            self.hold(True, against={some: against[some] for some in order})

    def test_against_with_a_choice_too_few_or_too_many(self):
        against = self.found.against
        for left in against:
            self.hold(False, against={some: against[some] for some in against if some != left})
        self.hold(False, against={})
        # One of the same cost, a dear one, and what is no choice.
        for more in ((1, 2), (0,), (0, 1), (2, 1), (1, 1), (3,), (-1,), (1, 3)):
            mixed = tuple([("A", "a")] * len(more))
            self.hold(False, against={**against, more: (0, mixed)})
            self.hold(False, against={more: (1, mixed), **against})
        for left in against:
            rest = {some: against[some] for some in against if some != left}
            for more in ((1, 2), (0,), (2, 1), (3,)):
                self.hold(False, against={**rest, more: against[left]})

    def test_one_of_the_same_cost_in_against(self):
        offers = [(WHOLE, 2), (SMALL, 2)]
        filters = [(WHOLE, ("equal", "A"))]
        told = cheapest(offers, filters)
        self.assertEqual((told.choice, told.against), ((0,), {(): (0, ())}))
        against = {(): (0, ()), (1,): (0, (("A", "a"),))}
        self.assertIs(slow.is_mixed(SMALL, *filters[0], "A", "a"), True)
        self.assertIs(Cheapest((0,), told.served, against).shows(offers, filters), False)
        offers = [(WHOLE, 2), (SMALL, 1)]
        self.assertIs(Cheapest((0,), told.served, against).shows(offers, filters), True)

    def test_against_by_another_filter(self):
        against = self.found.against
        for choice, (right, mixed) in against.items():
            for which in (-3, -2, -1, 0, 1, 2, 3, 10 ** 20, True, False, None, "0", (0,)):
                good = isinstance(which, int) and not isinstance(which, bool) and 0 <= which < 3
                good = good and are_mixed([OFFERS[index][0] for index in choice], FILTERS[which], mixed)
                self.hold(good, against={**against, choice: (which, mixed)})
        self.hold(True, against={**against, (): (2, ())})

    def test_against_with_other_values(self):
        against = self.found.against
        which, mixed = against[(1,)]
        self.assertEqual((which, slow.is_mixed(SMALL, *FILTERS[which], *mixed[0])), (0, True))
        self.hold(True, against={**against, (1,): (0, (("AaA", "aaA"),))})
        # Different keys; both let by; neither; the two exchanged; too many, too few.
        for pair in (("AA", "a"), ("A", "AA"), ("A", "A"), ("Aa", "AA"), ("a", "a"), ("a", "A"), ("aa", "Aa")):
            self.hold(False, against={**against, (1,): (0, (pair,))})
        for wrong in ((), mixed * 2, mixed + (("A", "a"),), (mixed,), mixed[0]):
            self.hold(False, against={**against, (1,): (0, wrong)})
        self.hold(False, against={**against, (): (0, mixed)})
        for pair in (("A",), ("A", "a", "a"), ("A", "b"), ("B", "a"), ("A", ""), ("", "a"), ()):
            self.hold(False, against={**against, (1,): (0, (pair,))})

    def test_lists_that_are_no_pairs_and_no_tuples(self):
        found = self.found
        which, mixed = found.against[(1,)]
        for wrong in ([which, mixed], (which, list(mixed)), (which, ([*mixed[0]],)), (which, mixed, mixed), (which,)):
            answer = Cheapest(found.choice, found.served, {**found.against, (1,): wrong})
            self.assertIs(answer.shows(OFFERS, FILTERS), False, wrong)
        index, pairs = found.served[0]
        for wrong in ([index, pairs], (index, pairs, pairs), (index,), ()):
            answer = copy.copy(found)
            answer.served = [wrong] + found.served[1:]
            self.assertIs(answer.shows(OFFERS, FILTERS), False, wrong)

    def test_values_for_each_offer_of_a_choice(self):
        offers = [(WHOLE, 9), (SMALL, 1), (SHORT, 1)]
        filters = [(WHOLE, ("begins", "A")), (WHOLE, ("equal", "Aa"))]
        told = cheapest(offers, filters)
        self.assertEqual((told.choice, list(told.against)), ((0,), [(), (1,), (2,), (1, 2)]))
        good = (("Aa", "aA"), ("Aa", "AaA"))
        for mixed in (good, good[::-1], good[:1], good[1:], good + good[:1], (good[0], good[0]), (good[1], good[1])):
            answer = Cheapest(told.choice, told.served, {**told.against, (1, 2): (1, mixed)})
            self.assertIs(answer.shows(offers, filters), mixed == good)
            self.assertIs(is_right(offers, filters, answer), mixed == good)
        # Both must be of one filter: here, the first one is served by the second offer of the choice.
        answer = Cheapest(told.choice, told.served, {**told.against, (1, 2): (0, (("A", "a"), ("Aa", "AaA")))})
        self.assertIs(answer.shows(offers, filters), False)

    def test_no_values(self):
        # Values of other letters are in NOT_VALUES; of these, too, A is one here.
        for wrong in NOT_VALUES:
            for pair in ((wrong, "a"), ("A", wrong)):
                if pair != ("A", "a"):
                    answer = copy.copy(self.found)
                    answer.against = {**self.found.against, (1,): (0, (pair,))}
                    self.assertIs(answer.shows(OFFERS, FILTERS), False, pair)

    def test_drawn_ones_with_other_values(self):
        chance = random.Random(111)
        held = {True: 0, False: 0}
        while held[True] < 60:
            offers, filters = drawn_offers(chance)
            try:
                told = cheapest(offers, filters)
            except TooLarge:
                continue
            if isinstance(told, Unserved) or len(told.against) < 2:
                continue
            for _ in range(40):
                choice = chance.choice(list(told.against))
                pairs = [tuple(chance.choice(texts(offers[0][0].letters, 3)) for _ in range(2)) for _ in choice]
                answer = copy.copy(told)
                answer.against = {**told.against, choice: (chance.randrange(len(filters)), tuple(pairs))}
                right = is_right(offers, filters, answer)
                self.assertIs(answer.shows(offers, filters), right)
                held[right] += 1
        self.assertGreater(held[False], 60)


class UnservedTest(unittest.TestCase):
    offers = [(SMALL, 4), (SHORT, 1)]
    filters = [(WHOLE, ("begins", "A")), (WHOLE, ("equal", "aA")), (WHOLE, ("like", "*A"))]
    good = [("aA", "aa"), ("aA", "aAA")]

    def hold(self, which, mixed, right):
        self.assertIs(Unserved(which, mixed).shows(self.offers, self.filters), right, (which, mixed))

    def test_what_is_told(self):
        found = cheapest(self.offers, self.filters)
        self.assertIs(found.shows(self.offers, self.filters), True)
        self.hold(1, self.good, True)
        self.hold(2, [("A", "a"), ("AA", "Aa")], True)

    def test_another_filter(self):
        for which in (-3, -2, -1, 0, 2, 3, 10 ** 20, True, False, None, "1", (1,)):
            self.hold(which, self.good, False)
        # Values that are right for the filter that stands there, counted from the end.
        self.hold(-2, self.good, False)
        self.hold(-1, [("A", "a"), ("AA", "Aa")], False)
        # Served by the second offer, so that no values can show it.
        for pair in (("A", "a"), ("Aa", "aa"), ("aA", "aa")):
            self.hold(0, [("A", "a"), pair], False)

    def test_true_as_an_index(self):
        offers, filters = [(SMALL, 1)], [(WHOLE, ("equal", "A")), (WHOLE, ("begins", "A"))]
        self.assertIs(Unserved(1, [("A", "a")]).shows(offers, filters), True)
        self.assertIs(Unserved(0, [("A", "a")]).shows(offers, filters), True)
        self.assertIs(Unserved(True, [("A", "a")]).shows(offers, filters), False)
        self.assertIs(Unserved(False, [("A", "a")]).shows(offers, filters), False)

    def test_pairs_left_out_and_put_in(self):
        one, other = self.good
        for mixed in ([], [one], [other], [one, other, one], [one, other, other], [one, one, other], [other, one]):
            self.hold(1, mixed, False)

    def test_pairs_changed(self):
        one, other = self.good
        for pair in (("aa", "aA"), ("aA", "aA"), ("aA", "a"), ("aA", ""), ("aB", "aa")):
            self.hold(1, [pair, other], False)
        for pair in ((), ("aA",), ("aA", "aa", "aa"), ["aA", "aa"]):
            self.hold(1, [pair, other], False)
        for pair in (("aAA", "aA"), ("aA", "aA"), ("aA", "AA"), ("aA", ""), ("aA",), (), ("aA", "ab")):
            self.hold(1, [one, pair], False)
        for wrong in NOT_VALUES:
            self.hold(1, [(wrong, "aa"), other], False)
            self.hold(1, [("aA", wrong), other], False)

    def test_all_pairs_of_short_values(self):
        for one in texts("Aa", 3):
            for other in texts("Aa", 3):
                right = slow.is_mixed(SHORT, *self.filters[1], one, other)
                self.hold(1, [self.good[0], (one, other)], right)

    def test_where_each_filter_is_served(self):
        for pair in (("A", "a"), ("a", "A"), ("", "A")):
            self.assertIs(Unserved(0, [pair] * 3).shows(OFFERS, FILTERS), False)


class LimitTest(unittest.TestCase):
    def test_an_offer_that_is_not_chosen(self):
        index, machine, condition = MIXED_401
        self.assertGreater(len(slow.pairs_by_values(*MIXED_401)), 400)
        for offers in ([(AB, 1), (index, 9)], [(index, 9), (AB, 1)], [(AB, 1), (AB, 1), (index, 1)]):
            for filters in ([(machine, condition)], [(AB, ("equal", "")), (machine, condition)]):
                caught(TooLarge, cheapest, offers, filters)
                caught(TooLarge, least_price, offers, filters)
        # Nor does a filter help that no offer serves.
        none = cut("ab", 0)
        caught(TooLarge, cheapest, [(none, 1), (index, 1)], [(AB, ("equal", "a")), (machine, condition)])
        self.assertIs(cheapest([(none, 1)], [(AB, ("equal", "a"))]).__class__, Unserved)
        # With other filters, all is well.
        self.assertEqual(least_price([(AB, 1), (index, 9)], [(AB, ("equal", ""))]), 1)
        self.assertEqual(least_price([(AB, 1)], [(machine, condition)]), 1)

    def test_400_pairs(self):
        index, machine, condition = MIXED_400
        self.assertEqual(len(slow.pairs_by_values(*MIXED_400)), 400)
        found = cheapest([(AB, 2), (index, 1)], [(machine, condition)])
        self.assertEqual(found.choice, (0,))
        self.assertIs(found.shows([(AB, 2), (index, 1)], [(machine, condition)]), True)
        self.assertEqual(least_price([(AB, 2), (index, 1)], [(machine, condition)]), 2)

    def test_what_has_no_limit(self):
        index, machine, condition = MIXED_401
        pairs = serve(AB, machine, condition).pairs
        answer = Cheapest((0,), [(0, pairs)], {(): (0, ())})
        self.assertIs(answer.shows([(AB, 1), (index, 9)], [(machine, condition)]), True)
        found = slow.pairs_by_values(*MIXED_401)
        mixed = [values for values in found.values() if slow.is_mixed(*MIXED_401, *values)][0]
        self.assertIs(Unserved(0, [mixed]).shows([(index, 9)], [(machine, condition)]), True)
        self.assertEqual(len(choices([(index, 1)] * 5)), 32)


def with_offers(call):
    """A call of something with offers and filters as a function of both."""
    return call if call is not choices else lambda offers, filters: choices(offers)


CALLS = [choices, cheapest, least_price, Cheapest((), [], {}).shows, Unserved(0, []).shows]
GOOD = [(AB, ("equal", "a"))]


class ErrorsTest(unittest.TestCase):
    def test_what_is_right(self):
        for call in CALLS:
            with_offers(call)([(AB, 1)], GOOD)
            with_offers(call)([(AB, 9)] * 5, GOOD * 4)

    def test_what_are_no_offers(self):
        for call in CALLS:
            for wrong in NOT_GROUPS + [[(AB, 1)] * 6, ((AB, 1),) * 6, [None] * 6, {(AB.letters, 1): 1}]:
                self.assertIsNone(caught(BadOffers, with_offers(call), wrong, GOOD).index)
                self.assertIsNone(caught(BadOffers, with_offers(call), wrong, None).index)

    def test_an_item_that_is_no_offer(self):
        wrongs = [(wrong, 1) for wrong in NOT_MACHINES]
        wrongs += [(AB, price) for price in (0, 10, -1, True, False, None, "1", (1,), 10 ** 20)]
        wrongs += [None, AB, 1, (AB,), (AB, 1, 1), [AB, 1], (1, AB), {AB.letters: 1}, "ab", ()]
        for call in CALLS:
            for many in (1, 2, 5):
                for at in range(many):
                    for wrong in wrongs:
                        offers = [(AB, 1)] * at + [wrong] + [(AB, 2)] * (many - at - 1)
                        self.assertEqual(caught(BadOffers, with_offers(call), offers, GOOD).index, at)
                        self.assertEqual(caught(BadOffers, with_offers(call), tuple(offers), None).index, at)

    def test_an_offer_with_other_letters(self):
        for call in CALLS:
            for letters in ("ba", "abc", "cd"):
                for at in range(1, 5):
                    offers = [(AB, 1)] * at + [(plain(letters), 1)] + [(AB, 1)] * (4 - at)
                    self.assertEqual(caught(BadOffers, with_offers(call), offers, GOOD).index, at)
            # Those of the first one count, whichever are more.
            offers = [(plain("cd"), 1), (AB, 1), (AB, 1)]
            self.assertEqual(caught(BadOffers, with_offers(call), offers, GOOD).index, 1)

    def test_the_first_offer_that_is_wrong_counts(self):
        for call in CALLS:
            for first in (None, (plain("ba"), 1), (AB, 0)):
                for later in (None, (plain("ba"), 1), (AB, 0)):
                    offers = [(AB, 1), first, (AB, 1), later]
                    self.assertEqual(caught(BadOffers, with_offers(call), offers, GOOD).index, 1)
            self.assertEqual(caught(BadOffers, with_offers(call), [None, (plain("ba"), 1)], GOOD).index, 0)

    def test_what_are_no_filters(self):
        for call in CALLS[1:]:
            for wrong in NOT_GROUPS + [GOOD * 5, tuple(GOOD * 5), [None] * 5]:
                self.assertIsNone(caught(BadFilters, call, [(AB, 1)], wrong).index)

    def test_an_item_that_is_no_filter(self):
        wrongs = [(wrong, ("equal", "a")) for wrong in NOT_MACHINES] + [(AB, wrong) for wrong in NOT_CONDITIONS]
        wrongs += [(plain(letters), ("equal", "a")) for letters in ("ba", "abc", "aB")]
        wrongs += [None, AB, ("equal", "a"), (AB,), (AB, "equal", "a"), [AB, ("equal", "a")], (("equal", "a"), AB), ()]
        for call in CALLS[1:]:
            for many in (1, 2, 4):
                for at in range(many):
                    for wrong in wrongs:
                        filters = GOOD * at + [wrong] + GOOD * (many - at - 1)
                        self.assertEqual(caught(BadFilters, call, [(AB, 1)], filters).index, at)
                        self.assertEqual(caught(BadFilters, call, [(AB, 1)], tuple(filters)).index, at)
            self.assertEqual(caught(BadFilters, call, [(AB, 1)], GOOD + [None, None]).index, 1)

    def test_filters_have_the_letters_of_the_offers(self):
        for call in CALLS[1:]:
            filters = [(plain("ba"), ("equal", "a"))] * 2
            self.assertEqual(caught(BadFilters, call, [(AB, 1)], filters).index, 0)
            call([(plain("ba"), 1)], filters)

    def test_offers_come_ahead_of_filters_and_these_of_what_is_too_large(self):
        index, machine, condition = MIXED_401
        for call in (cheapest, least_price):
            self.assertEqual(caught(BadOffers, call, [(index, 0)], [(machine, condition)]).index, 0)
            self.assertEqual(caught(BadFilters, call, [(index, 1)], [(machine, condition), None]).index, 1)
        for call in CALLS[1:]:
            self.assertEqual(caught(BadOffers, call, [(AB, 1), None], [None]).index, 1)

    def test_machines_with_many_states_are_no_reason(self):
        long = Machine("ab", tuple(((at, "a"), (at, "b")) for at in range(6)))
        self.assertEqual(least_price([(long, 9)], [(stripped("ab", "a"), ("equal", "b"))]), 9)


if __name__ == "__main__":
    unittest.main()
