"""Order ([8]): whether keys rise with what a machine makes."""

import random
import unittest
from itertools import product

import slow
from foldlook.errors import TooLarge
from foldlook.machines import Machine, cut, mapped, plain, squeezed, stripped
from foldlook.orders import Crosses, Rises, keeps_order, order
from foldlook.serving import Tells, does_tell, tell
from helper import NOT_VALUES, caught, drawn_machine, drawn_pair, ready_machines, ring, texts
from large import BLURS_400, BLURS_401, TELLS_400, TELLS_401


def places(letters, text):
    return [letters.find(sign) for sign in text]


def is_behind(machine, one, other):
    """Whether what a machine makes of one value comes behind what it makes of another one."""
    return places(machine.letters, machine.made(one)) > places(machine.letters, machine.made(other))


def is_crossed(index, machine, one, other):
    return not is_behind(index, one, other) and is_behind(machine, one, other)


def first_two(machine, state, letter):
    """The first two letters at most of all that is made of a letter and what is read behind it, from a state on."""
    def follow(place):
        found = [slow.read(machine, place[0], sign) for sign in machine.letters]
        return [(there, (place[1] + out)[:2]) for there, out in found]
    return {text for _, text in slow.closure([slow.read(machine, state, letter)], follow)}


def is_rising(index, machine, pair):
    """Whether a pair may stand in a Rises, if it may in a Tells, from the words of [8] alone."""
    letters = machine.letters
    for (one, letter), (other, sign) in product(product(pair[:1], letters), product(pair[1:], letters)):
        key, mark = slow.read(index, one[0], letter)[1], slow.read(index, other[0], sign)[1]
        if key and mark and letters.find(key) < letters.find(mark):
            last = places(letters, slow.read(machine, other[1], sign)[1])
            if any(places(letters, text) > last for text in first_two(machine, one[1], letter)):
                return False
    return True


def are_rising(index, machine, pairs):
    """Whether a list of pairs is one of a Rises, from the words of [8] alone."""
    def follow(pair):
        return slow.pairs_behind(index, machine, None, pair)
    if not slow.is_closed(pairs, ((0, 0), (0, 0)), follow):
        return False
    if not all(same for pair in pairs for _, same in slow.moves(index, machine, None, pair)):
        return False
    return all(is_rising(index, machine, pair) for pair in pairs)


def drawn_order(chance):
    """An index and a machine by which the keys often rise."""
    index, machine = drawn_pair(chance, 4)
    if chance.randrange(2):
        return index, machine
    letters = index.letters
    # Machines that cut, or that make no difference between letters beside one another, keep the order.
    near = mapped(letters, (letters[0],) * 2 + tuple(letters[2:]))
    index = chance.choice([plain(letters), cut(letters, 3), near, drawn_machine(chance, letters, 2, 1)])
    same = mapped(letters, (letters[-1],) * len(letters))
    machine = chance.choice([index, near, cut(letters, 1), cut(letters, 2), same])
    return index, machine


class OrderTest(unittest.TestCase):
    def test_keys_that_rise(self):
        whole = plain("_Aa")
        near = mapped("_Aa", ("_", "a", "a"))
        for index, machine in (
            (whole, whole), (whole, cut("_Aa", 0)), (whole, cut("_Aa", 1)), (whole, cut("_Aa", 5)), (near, near),
            (cut("_Aa", 3), cut("_Aa", 2)), (whole, mapped("_Aa", ("", "", ""))),
            (cut("_Aa", 1), mapped("_Aa", ("",) * 3)), (mapped("_Aa", ("",) * 3), mapped("_Aa", ("",) * 3)),
            (stripped("_Aa", "_"), stripped("_Aa", "_")), (squeezed("_Aa", "a"), squeezed("_Aa", "a")),
        ):
            self.assertIs(keeps_order(index, machine), True)
            self.assertIs(order(index, machine).__class__, Rises)

    def test_keys_that_cross(self):
        whole, near = plain("_Aa"), mapped("_Aa", ("_", "a", "a"))
        for index, machine in (
            # Not told.
            (near, whole), (cut("_Aa", 2), whole), (mapped("_Aa", ("", "A", "a")), whole),
            # Told, but in another order.
            (whole, mapped("_Aa", ("a", "A", "_"))), (whole, mapped("_Aa", ("_", "a", "A"))),
            (whole, stripped("_Aa", "_")), (mapped("_Aa", ("A", "_", "a")), whole),
            # What is read later makes one longer.
            (whole, near), (whole, mapped("_Aa", ("", "A", "a"))), (whole, mapped("_Aa", ("A", "A", "A"))),
            (whole, squeezed("_Aa", "A")),
        ):
            self.assertIs(keeps_order(index, machine), False)
            answer = order(index, machine)
            self.assertIs(answer.__class__, Crosses)
            self.assertTrue(is_crossed(index, machine, answer.one, answer.other))
            self.assertIs(answer.shows(index, machine), True)

    def test_what_is_read_behind_the_first_letter(self):
        whole = plain("ab")
        # a makes nothing, and so does b, but letters behind the first one make something.
        late = Machine("ab", (((1, ""), (1, "")), ((1, "a"), (1, "a"))))
        self.assertIs(keeps_order(whole, late), False)
        # a makes a, and then nothing more; b makes a, and then more.
        self.assertIs(keeps_order(whole, Machine("ab", (((1, "a"), (0, "a")), ((1, ""), (1, ""))))), True)
        # a makes a, and later a; so values that begin with a have more than b has.
        self.assertIs(keeps_order(whole, Machine("ab", (((0, "a"), (1, "a")), ((1, ""), (1, ""))))), False)
        # a makes nothing, and what is read behind it makes a; b makes b.
        least = Machine("ab", (((1, ""), (0, "b")), ((2, "a"), (2, "a")), ((2, ""), (2, ""))))
        self.assertIs(keeps_order(whole, least), True)
        # Behind one letter a, though, one that makes a, and more behind it, stands ahead of another one.
        self.assertIs(keeps_order(whole, Machine("ab", (((1, ""), (0, "b")), ((1, "a"), (1, "a"))))), False)
        # What is read behind it makes b once, as b does; then nothing more.
        once = Machine("ab", (((1, ""), (0, "b")), ((2, "b"), (2, "b")), ((2, ""), (2, ""))))
        self.assertIs(keeps_order(whole, once), True)
        twice = Machine("ab", (((1, ""), (0, "b")), ((2, "b"), (2, "b")), ((3, ""), (3, "a")), ((3, ""), (3, ""))))
        self.assertIs(keeps_order(whole, twice), False)

    def test_the_same_letter_twice(self):
        # The letter b makes b ahead of others for the key, but a behind a letter: the same letter makes both keys.
        index = Machine("ab", (((1, ""), (0, "b")), ((1, ""), (1, "a"))))
        same = Machine("ab", (((1, ""), (0, "b")), ((1, ""), (1, "a"))))
        self.assertIs(keeps_order(index, same), True)
        turned = Machine("ab", (((1, ""), (0, "a")), ((1, ""), (1, "b"))))
        self.assertIs(does_tell(index, turned), True)
        self.assertIs(keeps_order(index, turned), False)
        self.assertIs(Crosses("ab", "b").shows(index, turned), True)

    def test_against_the_words(self):
        chance = random.Random(8)
        seen = {"rises": 0, "blurs": 0, "crosses": 0}
        for _ in range(700):
            index, machine = drawn_order(chance)
            if len(slow.pairs_by_values(index, machine, None, [])) > 400:
                caught(TooLarge, order, index, machine)
                caught(TooLarge, keeps_order, index, machine)
                continue
            answer = order(index, machine)
            self.assertIs(keeps_order(index, machine), isinstance(answer, Rises))
            self.assertIs(answer.shows(index, machine), True)
            if isinstance(answer, Rises):
                seen["rises"] += 1
                self.assertIs(answer.pairs.__class__, list)
                self.assertTrue(are_rising(index, machine, answer.pairs))
            else:
                seen["crosses" if does_tell(index, machine) else "blurs"] += 1
                self.assertTrue(is_crossed(index, machine, answer.one, answer.other))
        self.assertTrue(all(many > 60 for many in seen.values()), seen)

    def test_against_all_values_up_to_some_length(self):
        chance = random.Random(81)
        held = {True: 0, False: 0}
        values = list(product(texts("ab", 4), repeat=2))
        for _ in range(150):
            index, machine = drawn_machine(chance, "ab", 2, 2), drawn_machine(chance, "ab", 2, 4)
            crossed = any(is_crossed(index, machine, one, other) for one, other in values)
            rises = keeps_order(index, machine)
            held[rises] += 1
            # With so few states, what crosses does so within four letters.
            self.assertIs(rises, not crossed, (index.rows, machine.rows))
        self.assertTrue(min(held.values()) > 15, held)

    def test_each_answer_is_new(self):
        whole = plain("ab")
        one, other = order(whole, whole), order(whole, whole)
        self.assertEqual(one, other)
        self.assertIsNot(one, other)
        one.pairs.clear()
        self.assertNotEqual(one, other)
        self.assertIs(order(whole, whole).shows(whole, whole), True)
        self.assertIs(one.shows(whole, whole), False)


class PairsTest(unittest.TestCase):
    def setUp(self):
        chance = random.Random(82)
        self.cases = []
        while len(self.cases) < 40:
            index, machine = drawn_order(chance)
            if len(slow.pairs_by_values(index, machine, None, [])) < 60 and keeps_order(index, machine):
                self.cases.append((index, machine, order(index, machine).pairs))

    def hold(self, case, pairs, right):
        self.assertIs(Rises(pairs).shows(*case[:2]), right, (case, pairs))

    def test_in_any_order_and_more_than_once(self):
        for case in self.cases:
            self.hold(case, case[2][::-1], True)
            self.hold(case, case[2] * 2, True)

    def test_a_pair_left_out(self):
        for case in self.cases:
            self.hold(case, [], False)
            for at in range(len(case[2])):
                self.hold(case, case[2][:at] + case[2][at + 1:], False)

    def test_the_first_one_left_out_where_no_move_leads_to_it(self):
        case = (cut("ab", 1), cut("ab", 1), order(cut("ab", 1), cut("ab", 1)).pairs)
        self.hold(case, [pair for pair in case[2] if pair != ((0, 0), (0, 0))], False)

    def test_a_pair_put_in(self):
        chance = random.Random(83)
        seen = set()
        for case in self.cases:
            index, machine, pairs = case
            for _ in range(15):
                legs = [(chance.randrange(len(index)), chance.randrange(len(machine))) for _ in range(2)]
                extra = slow.closure([tuple(legs)], lambda old: slow.pairs_behind(index, machine, None, old))
                right = are_rising(index, machine, pairs + extra)
                self.hold(case, pairs + extra, right)
                self.hold(case, pairs + [tuple(legs)], are_rising(index, machine, pairs + [tuple(legs)]))
                if not set(extra) <= set(pairs):
                    told = all(same for pair in extra for _, same in slow.moves(index, machine, None, pair))
                    seen.add((told, right))
        self.assertEqual(seen, {(True, True), (True, False), (False, False)})

    def test_what_is_no_pair_of_legs(self):
        for case in self.cases[:10]:
            for at, (one, other) in enumerate(case[2]):
                for wrong in (
                    (one,), (one, other, one), (), one, (one, None), (list(one), other), (one, list(other)), (one, ()),
                    (one + (0,), other), (one, other + (0,)), (one[:1], other), ((len(case[0]), 0), other),
                    ((0, len(case[1])), other), (one, (-1, 0)), (one, (0, -1)), (("0", 0), other), (one, (None, 0)),
                    ((False, 0), other), (one, (0, False)),
                ):
                    self.hold(case, case[2][:at] + [wrong] + case[2][at + 1:], False)
                    self.hold(case, case[2] + [wrong], False)

    def test_the_same_list_for_a_tells_and_not_for_a_rises(self):
        chance = random.Random(84)
        held = 0
        while held < 40:
            index, machine = drawn_order(chance)
            if len(slow.pairs_by_values(index, machine, None, [])) > 400 or not does_tell(index, machine):
                continue
            pairs = tell(index, machine).pairs
            self.assertIs(Tells(pairs).shows(index, machine), True)
            self.assertIs(Rises(pairs).shows(index, machine), keeps_order(index, machine))
            held += not keeps_order(index, machine)

    def test_a_list_that_is_none_for_a_tells(self):
        near, whole = mapped("ab", ("a", "a")), plain("ab")
        self.assertIs(Rises([((0, 0), (0, 0))]).shows(near, whole), False)
        self.assertIs(Rises([((0, 0), (0, 0))]).shows(mapped("ab", ("", "b")), whole), False)
        self.assertIs(Rises([((0, 0), (0, 0))]).shows(whole, near), False)
        self.assertIs(Rises([((0, 0), (0, 0))]).shows(near, cut("ab", 0)), True)


class ValuesTest(unittest.TestCase):
    def test_which_values_show_it(self):
        chance = random.Random(85)
        seen = set()
        for _ in range(60):
            index, machine = drawn_pair(chance)
            for one, other in product(texts(index.letters, 2), repeat=2):
                right = is_crossed(index, machine, one, other)
                self.assertIs(Crosses(one, other).shows(index, machine), right)
                seen.add((right, index.made(one) == index.made(other), machine.made(one) == machine.made(other)))
                if right:
                    seen.add("prefix" if one.startswith(other) else "no prefix")
        self.assertLessEqual({"prefix", "no prefix", (True, True, False), (True, False, False)}, seen)
        self.assertLessEqual({(False, True, True), (False, False, True), (False, False, False)}, seen)

    def test_values_with_one_key(self):
        near, whole = mapped("Aa", ("a", "a")), plain("Aa")
        self.assertIs(Crosses("a", "A").shows(near, whole), True)
        self.assertIs(Crosses("A", "a").shows(near, whole), False)
        self.assertIs(Crosses("a", "a").shows(near, whole), False)

    def test_values_of_which_one_begins_with_the_other_one(self):
        strip, whole = stripped("_a", "_"), plain("_a")
        self.assertIs(Crosses("_", "").shows(strip, whole), True)
        self.assertIs(Crosses("", "_").shows(strip, whole), False)
        self.assertIs(Crosses("_a", "_").shows(strip, whole), False)
        self.assertIs(Crosses("_", "_a").shows(strip, whole), False)
        self.assertIs(Crosses("_a", "_").shows(whole, strip), False)

    def test_what_is_no_value(self):
        whole, turned = plain("ab"), mapped("ab", ("b", "a"))
        self.assertIs(Crosses("a", "b").shows(whole, turned), True)
        for wrong in NOT_VALUES:
            self.assertIs(Crosses("a", wrong).shows(whole, turned), False)
            self.assertIs(Crosses(wrong, "b").shows(whole, turned), False)
            self.assertIs(Crosses(wrong, wrong).shows(whole, turned), False)

    def test_long_values(self):
        whole, turned = plain("ab"), mapped("ab", ("b", "a"))
        self.assertIs(Crosses("a" * 3000, "a" * 2999 + "b").shows(whole, turned), True)
        self.assertIs(Crosses("a" * 2999 + "b", "a" * 3000).shows(whole, turned), False)


class LimitTest(unittest.TestCase):
    def test_400_pairs(self):
        for case in (TELLS_400, BLURS_400):
            self.assertIs(order(*case).shows(*case), True)
        self.assertIs(keeps_order(*TELLS_400), True)
        self.assertIs(keeps_order(*BLURS_400), False)

    def test_more_pairs(self):
        for case in (TELLS_401, BLURS_401, (ring(6, ""), ring(5, ""))):
            caught(TooLarge, order, *case)
            caught(TooLarge, keeps_order, *case)

    def test_only_pairs_on_whose_way_the_machine_makes_the_same_count(self):
        self.assertIs(keeps_order(ring(6, ""), ring(5, "a")), False)

    def test_shows_has_no_limit(self):
        legs = [(at % 6, at % 5) for at in range(30)]
        pairs = list(product(legs, repeat=2))
        self.assertIs(Rises(pairs).shows(ring(6, ""), ring(5, "")), True)
        self.assertIs(Rises(pairs[1:]).shows(ring(6, ""), ring(5, "")), False)
        values = []
        slow.pairs_by_values(*BLURS_401, None, values)
        one, other = sorted(values[0], key=BLURS_401[1].made)
        self.assertIs(Crosses(other, one).shows(*BLURS_401), True)


class ReadyTest(unittest.TestCase):
    def test_ready_machines(self):
        values = texts("ab", 4)
        for index, machine in product(ready_machines("ab"), repeat=2):
            crossed = any(is_crossed(index, machine, one, other) for one in values for other in values)
            self.assertIs(keeps_order(index, machine), not crossed, (index.rows, machine.rows))


if __name__ == "__main__":
    unittest.main()
