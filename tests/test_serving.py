"""Serving and telling ([6], [7]): pairs of legs, and values with one key."""

import random
import unittest
from itertools import product

import slow
from foldlook.errors import TooLarge
from foldlook.machines import Machine, cut, mapped, plain, squeezed, stripped
from foldlook.serving import (
    Blurs, Mixed, Served, Tells, can_serve, does_tell, least_blurred, least_mixed, serve, tell,
)
from helper import NOT_VALUES, caught, drawn_condition, drawn_machine, drawn_pair, ring, texts
from large import BLURS_400, BLURS_401, MIXED_400, MIXED_401, TELLS_400, TELLS_401


def first_pair(index, machine, condition):
    leg = slow.leg_after(index, machine, condition, "")
    return leg, leg


def is_served(index, machine, condition, pairs):
    """Whether a list of pairs is one of a Served, from the words of [6] alone."""
    def follow(pair):
        return slow.pairs_behind(index, machine, condition, pair)
    if not slow.is_closed(pairs, first_pair(index, machine, condition), follow):
        return False
    return all(slow.is_met(condition, one[2]) == slow.is_met(condition, other[2]) for one, other in pairs)


def are_told(index, machine, pairs):
    """Whether a list of pairs is one of a Tells, from the words of [7] alone."""
    def follow(pair):
        return slow.pairs_behind(index, machine, None, pair)
    if not slow.is_closed(pairs, first_pair(index, machine, None), follow):
        return False
    return all(same for pair in pairs for _, same in slow.moves(index, machine, None, pair))


def is_blurred(index, machine, one, other):
    return index.made(one) == index.made(other) and machine.made(one) != machine.made(other)


def drawn_leg(chance, index, machine, condition):
    leg = (chance.randrange(len(index)), chance.randrange(len(machine)))
    return leg if condition is None else leg + (chance.choice(slow.all_stands(condition)),)


def wrong_pairs(index, machine, condition, pair):
    """What is near to a pair of legs, but none."""
    one, other = pair
    wrong = [(), (one,), (one, other, one), one, one + other, (one, None), (None, other)]
    wrong += [(list(one), other), (one, list(other)), (one[:-1], other), (one, other[:-1]), (one[1:], other)]
    wrong += [(one + (0,), other), (one, other + (0,)), ((one,), (other,)), ((), ()), (one, ()), (one, 0), (one, "ab")]
    for bad in (-1, None, True if one[0] == 1 else False if one[0] == 0 else "", "0", (0,), [0], len(index)):
        wrong += [((bad,) + one[1:], other)]
    for bad in (-1, None, True if other[1] == 1 else False if other[1] == 0 else "", "0", (0,), [0], len(machine)):
        wrong += [(one, other[:1] + (bad,) + other[2:])]
    for bad in (-1, len(machine)):
        wrong += [(one[:1] + (bad,) + one[2:], other)]
    for bad in (-1, len(index), True if other[0] == 1 else False if other[0] == 0 else ""):
        wrong += [(one, (bad,) + other[1:])]
    if condition is not None:
        for bad in (None, "", [0], 9, -3, (9,), (9, 9), (-3, 0), (0, 0, 0), {}, [one[2]], (one[2],)):
            wrong += [(one[:2] + (bad,), other), (one, other[:2] + (bad,))]
        if one[2] in (0, 1) and not isinstance(one[2], tuple):
            wrong += [(one[:2] + (bool(one[2]),), other)]
    return wrong


class ServeTest(unittest.TestCase):
    def test_some_that_can_be_served(self):
        whole, short, small = plain("Aa"), cut("Aa", 2), mapped("Aa", ("a", "a"))
        for index, machine, condition in (
            (whole, small, ("equal", "aa")), (short, whole, ("begins", "Aa")), (short, whole, ("like", "?*")),
            (small, whole, ("like", "??")), (cut("Aa", 3), whole, ("equal", "AA")), (small, whole, ("begins", "")),
            (stripped("Aa", "A"), whole, ("like", "*a*")), (squeezed("Aa", "A"), whole, ("begins", "A")),
        ):
            self.assertIs(can_serve(index, machine, condition), True)
            self.assertIsNone(least_mixed(index, machine, condition))
            self.assertIs(serve(index, machine, condition).__class__, Served)

    def test_some_that_cannot(self):
        whole, short, small = plain("Aa"), cut("Aa", 2), mapped("Aa", ("a", "a"))
        for index, machine, condition, many in (
            (small, whole, ("equal", "Aa"), 4), (short, whole, ("equal", "Aa"), 5), (short, whole, ("like", "*a"), 5),
            (stripped("Aa", "A"), whole, ("equal", "a"), 3), (stripped("Aa", "A"), whole, ("equal", ""), 1),
            (squeezed("Aa", "A"), whole, ("equal", "aAAa"), 7), (cut("Aa", 0), whole, ("equal", "aaaa"), 4),
        ):
            self.assertIs(can_serve(index, machine, condition), False)
            self.assertEqual(least_mixed(index, machine, condition), many)
            self.assertIs(serve(index, machine, condition).__class__, Mixed)

    def test_letters_that_make_nothing_on_one_side_alone(self):
        # Just the value with the letter more is let by, and just the one without it.
        strip, whole = stripped("_a", "_"), plain("_a")
        for condition in (("begins", "_a"), ("begins", "a")):
            found = serve(strip, whole, condition)
            self.assertEqual(len(found.one + found.other), 3)
            self.assertTrue(slow.is_mixed(strip, whole, condition, found.one, found.other))
        self.assertEqual(serve(strip, whole, ("equal", "")), Mixed("", "_"))
        self.assertEqual(serve(strip, whole, ("equal", "_")), Mixed("_", ""))

    def test_against_a_walk_by_values(self):
        chance = random.Random(6)
        classes = {Served: 0, Mixed: 0}
        for _ in range(500):
            index, machine = drawn_pair(chance)
            condition = drawn_condition(chance, index.letters, 3)
            found = slow.pairs_by_values(index, machine, condition)
            if len(found) > 400:
                caught(TooLarge, serve, index, machine, condition)
                caught(TooLarge, can_serve, index, machine, condition)
                caught(TooLarge, least_mixed, index, machine, condition)
                continue
            mixed = [values for values in found.values() if slow.is_mixed(index, machine, condition, *values)]
            least = min((len(one + other) for one, other in mixed), default=None)
            answer = serve(index, machine, condition)
            classes[answer.__class__] += 1
            self.assertEqual(least_mixed(index, machine, condition), least)
            self.assertIs(can_serve(index, machine, condition), least is None)
            self.assertIs(isinstance(answer, Served), least is None)
            self.assertIs(answer.shows(index, machine, condition), True)
            if least is None:
                self.assertIs(answer.pairs.__class__, list)
                self.assertTrue(is_served(index, machine, condition, answer.pairs))
            else:
                self.assertTrue(slow.is_mixed(index, machine, condition, answer.one, answer.other))
        self.assertTrue(all(many > 60 for many in classes.values()), classes)

    def test_all_values_up_to_some_length(self):
        chance = random.Random(61)
        values = texts("ab", 5)
        held = 0
        for _ in range(120):
            index, machine = drawn_machine(chance, "ab", 2, 3), drawn_machine(chance, "ab", 2, 3)
            condition = drawn_condition(chance, "ab", 2)
            case = (index, machine, condition)
            least = least_of_values(index, values, lambda one, other: slow.is_mixed(*case, one, other))
            if least is not None and least <= 5:
                held += 1
                self.assertEqual(least_mixed(index, machine, condition), least)
            elif can_serve(index, machine, condition) is False:
                self.assertGreater(least_mixed(index, machine, condition), 5)
        self.assertGreater(held, 30)

    def test_one_and_other_exchanged(self):
        chance = random.Random(62)
        held = 0
        while held < 30:
            index, machine = drawn_pair(chance)
            condition = drawn_condition(chance, index.letters, 3)
            if len(slow.pairs_by_values(index, machine, condition)) <= 400:
                answer = serve(index, machine, condition)
                if isinstance(answer, Mixed):
                    held += 1
                    self.assertIs(Mixed(answer.other, answer.one).shows(index, machine, condition), False)

    def test_which_values_show_it(self):
        chance = random.Random(63)
        seen = set()
        for _ in range(40):
            index, machine = drawn_pair(chance)
            condition = drawn_condition(chance, index.letters, 2)
            for one, other in product(texts(index.letters, 2), repeat=2):
                right = slow.is_mixed(index, machine, condition, one, other)
                self.assertIs(Mixed(one, other).shows(index, machine, condition), right)
                seen.add((index.made(one) == index.made(other), right))
        self.assertEqual(seen, {(True, True), (True, False), (False, False)})

    def test_values_that_show_nothing(self):
        small, whole = mapped("Aa", ("a", "a")), plain("Aa")
        condition = ("equal", "a")
        self.assertIs(Mixed("a", "A").shows(small, whole, condition), True)
        self.assertIs(Mixed("a", "AA").shows(small, whole, condition), False)
        self.assertIs(Mixed("aA", "AA").shows(small, whole, condition), False)
        self.assertIs(Mixed("a", "a").shows(small, whole, condition), False)
        for wrong in NOT_VALUES:
            if wrong != "A":
                self.assertIs(Mixed("a", wrong).shows(small, whole, condition), False)
                self.assertIs(Mixed(wrong, "A").shows(small, whole, condition), False)
                self.assertIs(Mixed(wrong, wrong).shows(small, whole, condition), False)


def least_of_values(index, values, holds):
    """The least number of letters of two of some values with one key for which something holds."""
    groups = {}
    for value in values:
        groups.setdefault(index.made(value), []).append(value)
    numbers = [
        len(one + other) for group in groups.values() for one in group for other in group if holds(one, other)
    ]
    return min(numbers, default=None)


class ServedPairsTest(unittest.TestCase):
    def setUp(self):
        chance = random.Random(64)
        self.cases = []
        while len(self.cases) < 40:
            index, machine = drawn_pair(chance, 3)
            condition = drawn_condition(chance, index.letters, 2)
            if len(slow.pairs_by_values(index, machine, condition)) < 50 and can_serve(index, machine, condition):
                self.cases.append((index, machine, condition, serve(index, machine, condition).pairs))

    def hold(self, case, pairs, right):
        self.assertIs(Served(pairs).shows(*case[:3]), right, (case, pairs))

    def test_in_any_order_and_more_than_once(self):
        for case in self.cases:
            self.hold(case, case[3][::-1], True)
            self.hold(case, case[3] * 2, True)

    def test_a_pair_left_out(self):
        for case in self.cases:
            self.hold(case, [], False)
            for at in range(len(case[3])):
                self.hold(case, case[3][:at] + case[3][at + 1:], False)

    def test_the_first_one_left_out_where_no_move_leads_to_it(self):
        short = cut("ab", 1)
        pairs = serve(short, short, ("equal", "a")).pairs
        case = (short, short, ("equal", "a"))
        self.hold(case, pairs, True)
        self.hold(case, [pair for pair in pairs if pair != ((0, 0, 0), (0, 0, 0))], False)

    def test_a_pair_put_in(self):
        chance = random.Random(65)
        seen = set()
        for case in self.cases:
            index, machine, condition, pairs = case
            for _ in range(15):
                pair = (drawn_leg(chance, index, machine, condition), drawn_leg(chance, index, machine, condition))
                extra = slow.closure([pair], lambda old: slow.pairs_behind(index, machine, condition, old))
                for some in ([pair], extra):
                    right = is_served(index, machine, condition, pairs + some)
                    self.hold(case, pairs + some, right)
                    if not set(some) <= set(pairs):
                        seen.add((len(some) > 1, right))
        self.assertEqual(len(seen), 4)

    def test_a_part_changed(self):
        for case in self.cases[:15]:
            index, machine, condition, pairs = case
            for at, pair in enumerate(pairs):
                for wrong in wrong_pairs(index, machine, condition, pair):
                    if not is_pair(index, machine, condition, wrong):
                        self.hold(case, pairs[:at] + [wrong] + pairs[at + 1:], False)
                        self.hold(case, pairs + [wrong], False)

    def test_true_is_no_state(self):
        double = Machine("ab", (((1, "a"), (1, "b")), ((1, "a"), (1, "b"))))
        case = (double, double, ("begins", "a"))
        pairs = serve(*case).pairs
        self.assertIn(((1, 1, 1), (1, 1, 1)), pairs)
        for at in range(3):
            leg = (1,) * at + (True,) + (1,) * (2 - at)
            self.hold(case, pairs + [(leg, (1, 1, 1))], False)
            self.hold(case, pairs + [((1, 1, 1), leg)], False)


def is_pair(index, machine, condition, thing):
    """Whether something near to a pair of legs is one after all."""
    if len(thing) != 2:
        return False
    for leg in thing:
        if not isinstance(leg, tuple) or len(leg) != (2 if condition is None else 3):
            return False
        if isinstance(leg[0], bool) or isinstance(leg[1], bool):
            return False
        if leg[0] not in range(len(index)) or leg[1] not in range(len(machine)):
            return False
        if condition is not None and (leg[2] not in slow.all_stands(condition) or isinstance(leg[2], bool)):
            return False
    return True


class TellTest(unittest.TestCase):
    def test_keys_that_tell(self):
        whole, small = plain("Aa"), mapped("Aa", ("a", "a"))
        for index, machine in (
            (whole, whole), (whole, small), (small, small), (cut("Aa", 3), cut("Aa", 2)), (small, cut("Aa", 0)),
            (stripped("Aa", "A"), stripped("Aa", "A")), (squeezed("Aa", "A"), squeezed("Aa", "Aa")),
        ):
            self.assertIs(does_tell(index, machine), True)
            self.assertIsNone(least_blurred(index, machine))
            self.assertIs(tell(index, machine).__class__, Tells)

    def test_keys_that_do_not(self):
        whole, small = plain("Aa"), mapped("Aa", ("a", "a"))
        for index, machine, many in (
            (small, whole, 2), (cut("Aa", 2), whole, 5), (cut("Aa", 2), cut("Aa", 3), 5), (cut("Aa", 0), whole, 1),
            (stripped("Aa", "A"), whole, 1), (squeezed("Aa", "A"), whole, 3),
            (squeezed("Aa", "A"), stripped("Aa", "A"), 5), (mapped("Aa", ("", "a")), small, 1),
        ):
            self.assertIs(does_tell(index, machine), False)
            self.assertEqual(least_blurred(index, machine), many)
            self.assertIs(tell(index, machine).__class__, Blurs)

    def test_against_a_walk_by_values(self):
        chance = random.Random(7)
        classes = {Tells: 0, Blurs: 0, None: 0}
        for _ in range(900):
            index, machine = drawn_pair(chance, 6)
            unlike = []
            found = slow.pairs_by_values(index, machine, None, unlike)
            if len(found) > 400:
                classes[None] += 1
                caught(TooLarge, tell, index, machine)
                caught(TooLarge, does_tell, index, machine)
                caught(TooLarge, least_blurred, index, machine)
                continue
            least = min((len(one + other) for one, other in unlike), default=None)
            answer = tell(index, machine)
            classes[answer.__class__] += 1
            self.assertEqual(least_blurred(index, machine), least)
            self.assertIs(does_tell(index, machine), least is None)
            self.assertIs(isinstance(answer, Tells), least is None)
            self.assertIs(answer.shows(index, machine), True)
            if least is None:
                self.assertIs(answer.pairs.__class__, list)
                self.assertTrue(are_told(index, machine, answer.pairs))
            else:
                self.assertTrue(is_blurred(index, machine, answer.one, answer.other))
        self.assertTrue(classes[Tells] > 100 and classes[Blurs] > 100, classes)

    def test_all_values_up_to_some_length(self):
        chance = random.Random(71)
        values = texts("ab", 5)
        held = 0
        for _ in range(120):
            index, machine = drawn_machine(chance, "ab", 3, 3), drawn_machine(chance, "ab", 3, 3)
            least = least_of_values(index, values, lambda one, other: machine.made(one) != machine.made(other))
            if least is not None and least <= 5:
                held += 1
                self.assertEqual(least_blurred(index, machine), least)
            elif does_tell(index, machine) is False:
                self.assertGreater(least_blurred(index, machine), 5)
        self.assertGreater(held, 50)

    def test_one_and_other_exchanged(self):
        chance = random.Random(72)
        held = 0
        while held < 30:
            index, machine = drawn_pair(chance, 3)
            answer = tell(index, machine)
            if isinstance(answer, Blurs):
                held += 1
                self.assertIs(Blurs(answer.other, answer.one).shows(index, machine), True)

    def test_which_values_show_it(self):
        chance = random.Random(73)
        seen = set()
        for _ in range(40):
            index, machine = drawn_pair(chance)
            for one, other in product(texts(index.letters, 2), repeat=2):
                right = is_blurred(index, machine, one, other)
                self.assertIs(Blurs(one, other).shows(index, machine), right)
                seen.add((index.made(one) == index.made(other), right))
        self.assertEqual(seen, {(True, True), (True, False), (False, False)})

    def test_values_that_show_nothing(self):
        small, whole = mapped("Aa", ("a", "a")), plain("Aa")
        self.assertIs(Blurs("Aa", "aa").shows(small, whole), True)
        self.assertIs(Blurs("Aa", "Aa").shows(small, whole), False)
        self.assertIs(Blurs("A", "aa").shows(small, whole), False)
        for wrong in NOT_VALUES:
            if wrong != "A":
                self.assertIs(Blurs("A", wrong).shows(small, whole), False)
                self.assertIs(Blurs(wrong, "A").shows(small, whole), False)
                self.assertIs(Blurs(wrong, wrong).shows(small, whole), False)


class ToldPairsTest(unittest.TestCase):
    def setUp(self):
        chance = random.Random(74)
        self.cases = []
        while len(self.cases) < 40:
            index, machine = drawn_pair(chance, 4)
            if len(slow.pairs_by_values(index, machine, None, [])) < 50 and does_tell(index, machine):
                self.cases.append((index, machine, tell(index, machine).pairs))

    def hold(self, case, pairs, right):
        self.assertIs(Tells(pairs).shows(*case[:2]), right, (case, pairs))

    def test_in_any_order_and_more_than_once(self):
        for case in self.cases:
            self.hold(case, case[2][::-1], True)
            self.hold(case, case[2] * 2, True)

    def test_a_pair_left_out(self):
        for case in self.cases:
            self.hold(case, [], False)
            for at in range(len(case[2])):
                self.hold(case, case[2][:at] + case[2][at + 1:], False)

    def test_the_first_one_left_out_where_no_move_leads_to_it(self):
        short = cut("ab", 1)
        pairs = tell(short, short).pairs
        self.hold((short, short), pairs, True)
        self.hold((short, short), [pair for pair in pairs if pair != ((0, 0), (0, 0))], False)

    def test_a_pair_put_in(self):
        chance = random.Random(75)
        seen = set()
        for case in self.cases:
            index, machine, pairs = case
            for _ in range(15):
                pair = (drawn_leg(chance, index, machine, None), drawn_leg(chance, index, machine, None))
                extra = slow.closure([pair], lambda old: slow.pairs_behind(index, machine, None, old))
                for some in ([pair], extra):
                    right = are_told(index, machine, pairs + some)
                    self.hold(case, pairs + some, right)
                    if not set(some) <= set(pairs):
                        seen.add((len(some) > 1, right))
        self.assertEqual(len(seen), 4)

    def test_closed_pairs_by_which_the_machine_does_not_make_the_same(self):
        # Both of these are closed, but for the first one a letter of one leg alone makes something, and for the
        # second one the letters of both legs do not make the same.
        whole = plain("ab")
        for index in (mapped("ab", ("", "b")), mapped("ab", ("b", "b"))):
            self.assertIs(Tells([((0, 0), (0, 0))]).shows(index, whole), False)
            self.assertIs(Tells([((0, 0), (0, 0))]).shows(index, index), True)

    def test_a_part_changed(self):
        for case in self.cases[:15]:
            index, machine, pairs = case
            for at, pair in enumerate(pairs):
                for wrong in wrong_pairs(index, machine, None, pair):
                    if not is_pair(index, machine, None, wrong):
                        self.hold(case, pairs[:at] + [wrong] + pairs[at + 1:], False)
                        self.hold(case, pairs + [wrong], False)

    def test_legs_of_serving_are_none_of_telling(self):
        short = cut("ab", 1)
        served, told = serve(short, short, ("equal", "a")).pairs, tell(short, short).pairs
        self.hold((short, short), told + served[:1], False)
        self.assertIs(Served(served + told[:1]).shows(short, short, ("equal", "a")), False)


class LimitTest(unittest.TestCase):
    def test_400_pairs_of_a_filter(self):
        self.assertEqual(len(slow.pairs_by_values(*MIXED_400)), 400)
        self.assertIs(serve(*MIXED_400).__class__, Mixed)
        self.assertTrue(serve(*MIXED_400).shows(*MIXED_400))
        self.assertIs(can_serve(*MIXED_400), False)
        # An index that makes nothing: all 20 legs come about beside one another.
        case = (ring(5, ""), ring(4, ""), ("equal", "a"))
        self.assertIs(can_serve(*case), True)
        self.assertEqual(len(set(serve(*case).pairs)), 400)

    def test_more_pairs_of_a_filter(self):
        self.assertEqual(len(slow.pairs_by_values(*MIXED_401)), 401)
        for case in (MIXED_401, (ring(6, ""), ring(5, ""), ("equal", ""))):
            caught(TooLarge, serve, *case)
            caught(TooLarge, can_serve, *case)
            caught(TooLarge, least_mixed, *case)

    def test_shows_has_no_limit(self):
        pairs = list(slow.pairs_by_values(*MIXED_401))
        found = slow.pairs_by_values(*MIXED_401).values()
        mixed = [values for values in found if slow.is_mixed(*MIXED_401, *values)]
        self.assertIs(Mixed(*mixed[0]).shows(*MIXED_401), True)
        self.assertIs(Served(pairs).shows(*MIXED_401), False)
        case = (ring(6, ""), ring(5, ""), ("equal", "a"))
        legs = [(at % 6, at % 5, 0) for at in range(30)]
        self.assertIs(Served(list(product(legs, repeat=2))).shows(*case), True)
        self.assertIs(Served(list(product(legs, repeat=2))[1:]).shows(*case), False)
        legs = [leg[:2] for leg in legs]
        self.assertIs(Tells(list(product(legs, repeat=2))).shows(*case[:2]), True)
        self.assertIs(Tells(list(product(legs, repeat=2))[:-1]).shows(*case[:2]), False)

    def test_400_told_pairs(self):
        self.assertEqual(len(slow.pairs_by_values(*TELLS_400, None, [])), 400)
        self.assertIs(does_tell(*TELLS_400), True)
        self.assertTrue(are_told(*TELLS_400, tell(*TELLS_400).pairs))
        self.assertEqual(len(slow.pairs_by_values(*BLURS_400, None, [])), 400)
        self.assertIs(does_tell(*BLURS_400), False)

    def test_more_told_pairs(self):
        for case in (TELLS_401, BLURS_401):
            self.assertEqual(len(slow.pairs_by_values(*case, None, [])), 401)
            caught(TooLarge, tell, *case)
            caught(TooLarge, does_tell, *case)
            caught(TooLarge, least_blurred, *case)
        values = []
        slow.pairs_by_values(*BLURS_401, None, values)
        self.assertIs(Blurs(*values[0]).shows(*BLURS_401), True)

    def test_only_pairs_on_whose_way_the_machine_makes_the_same_count(self):
        # Values with as many letters have one key, and of them the machine makes the same; but of the one letter ahead
        # it makes something, and nothing of none. So no pair but the first one comes about.
        index, machine = ring(6, ""), ring(5, "a")
        self.assertEqual(machine.made("abab"), machine.made("bbbb"))
        all_pairs = slow.closure([((0, 0), (0, 0))], lambda old: slow.pairs_behind(index, machine, None, old))
        self.assertEqual(len(all_pairs), 900)
        self.assertEqual(least_blurred(index, machine), 1)
        self.assertEqual(sorted([tell(index, machine).one, tell(index, machine).other], key=len)[0], "")

    def test_pairs_that_are_led_to_by_other_moves_alone_do_not_count(self):
        # The letter b of the first leg makes something, and behind it there would be more than enough pairs.
        silent = Machine("ab", tuple((((at + 1) % 5, ""), ((at + 1) % 5, "")) for at in range(5)))
        machine = Machine("ab", (((0, ""), (1, "a")), ((2, ""), (2, "")), ((3, ""), (3, "")), ((4, ""), (4, "")),
                                 ((5, ""), (5, "")), ((1, ""), (1, ""))))
        many = len(slow.closure([((0, 0), (0, 0))], lambda old: slow.pairs_behind(silent, machine, None, old)))
        self.assertGreater(many, 400)
        self.assertEqual(len(slow.pairs_by_values(silent, machine, None, [])), 25)
        self.assertEqual(least_blurred(silent, machine), 1)
        self.assertIs(does_tell(silent, machine), False)


class NewTest(unittest.TestCase):
    def test_each_answer_is_new(self):
        whole, small = plain("Aa"), mapped("Aa", ("a", "a"))
        for call, given in ((serve, (whole, small, ("equal", "a"))), (tell, (whole, small))):
            one, other = call(*given), call(*given)
            self.assertEqual(one, other)
            self.assertIsNot(one, other)
            one.pairs.clear()
            self.assertNotEqual(one, other)
            self.assertIs(call(*given).shows(*given), True)
            self.assertIs(one.shows(*given), False)


if __name__ == "__main__":
    unittest.main()
