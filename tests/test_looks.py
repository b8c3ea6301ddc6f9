"""Looks ([5]): what a question to an index finds of the rows of a filter."""

import random
import unittest
from itertools import product

import slow
from foldlook.conditions import meets
from foldlook.errors import TooLarge
from foldlook.looks import Exact, Misses, More, found_in, judge, shortest_unlike
from foldlook.machines import Machine, cut, mapped, plain, squeezed, stripped
from helper import NOT_VALUES, caught, drawn_condition, drawn_machine, ready_machines, texts
from large import MISSES_401, SPOTS_400, SPOTS_401


def drawn_look(chance):
    """An index, a question, a machine and a condition, some of them of a kind that often fits."""
    letters = chance.choice(["ab", "ba", "abc", "_aAb"])
    ready = ready_machines(letters)
    index = chance.choice(ready + [drawn_machine(chance, letters, 6, 3) for _ in range(len(ready))])
    machine = chance.choice(ready + [index] * 9 + [drawn_machine(chance, letters, 6, 3) for _ in range(len(ready))])
    question = drawn_condition(chance, letters, 3)
    condition = chance.choice([question, drawn_condition(chance, letters, 3), ("begins", question[1][:1].strip("?*"))])
    return index, question, machine, condition


def is_spot_right(look, spot, more):
    """Whether a spot may stand in an Exact, or in a More."""
    found, let_by = slow.is_met(look[1], spot[1]), slow.is_met(look[3], spot[3])
    return found == let_by or more and found


def is_right(look, answer):
    """Whether an answer with spots, and perhaps a value, is right, from the words of [5] alone."""
    index, question, machine, condition = look
    more = isinstance(answer, More)
    if not slow.is_closed(answer.spots, first_of(look), lambda spot: slow.spots_behind(*look, spot)):
        return False
    if not all(is_spot_right(look, spot, more) for spot in answer.spots):
        return False
    return not more or meets(index, question, answer.value) and not meets(machine, condition, answer.value)


def first_of(look):
    """The first spot, by the empty value."""
    return list(slow.spots_by_values(*look))[0]


def with_spots(answer, spots):
    """An answer of the same class with other spots."""
    return More(spots, answer.value) if isinstance(answer, More) else Exact(spots)


class JudgeTest(unittest.TestCase):
    def test_each_answer(self):
        short, whole = cut("ab", 2), plain("ab")
        self.assertEqual(judge(short, ("equal", "ab"), whole, ("begins", "ab")).__class__, Exact)
        self.assertEqual(judge(short, ("begins", "a"), whole, ("equal", "ab")).__class__, More)
        self.assertEqual(judge(short, ("equal", "aba"), whole, ("begins", "aba")).__class__, Misses)
        # Both sides are there: then it is a Misses.
        self.assertEqual(judge(whole, ("begins", "a"), whole, ("begins", "b")).__class__, Misses)

    def test_against_a_walk_by_values(self):
        chance = random.Random(5)
        classes = {Exact: 0, More: 0, Misses: 0}
        for _ in range(700):
            look = drawn_look(chance)
            found = slow.spots_by_values(*look)
            missed, more = sides(look, found)
            answer = judge(*look)
            classes[answer.__class__] += 1
            self.assertEqual(shortest_unlike(*look), (missed, more), look)
            due = Misses if missed is not None else More if more is not None else Exact
            self.assertIs(answer.__class__, due, look)
            self.assertIs(answer.shows(*look), True, look)
            if due is Misses:
                self.assertTrue(is_miss(look, answer.value))
            else:
                self.assertIs(answer.spots.__class__, list)
                self.assertTrue(is_right(look, answer))
        self.assertTrue(all(many > 60 for many in classes.values()), classes)

    def test_all_values_up_to_some_length(self):
        values = texts("_ab", 4)
        machines = [plain("_ab"), mapped("_ab", ("", "b", "b")), cut("_ab", 1), stripped("_ab", "_")]
        machines += [squeezed("_ab", "_a")]
        conditions = [("equal", "ab"), ("begins", "b"), ("between", "_", "ab"), ("like", "*a?")]
        for index, machine in product(machines, repeat=2):
            for question, condition in product(conditions, repeat=2):
                look = (index, question, machine, condition)
                missed = [len(value) for value in values if is_miss(look, value)]
                more = [len(value) for value in values if is_more(look, value)]
                # In these, what comes about does so within few letters.
                self.assertEqual(shortest_unlike(*look), (min(missed, default=None), min(more, default=None)), look)

    def test_least_numbers(self):
        short, whole = cut("ab", 2), plain("ab")
        self.assertEqual(shortest_unlike(short, ("equal", "ab"), whole, ("equal", "ab")), (None, 3))
        self.assertEqual(shortest_unlike(whole, ("equal", "ab"), short, ("equal", "ab")), (3, None))
        self.assertEqual(shortest_unlike(whole, ("equal", "ab"), whole, ("equal", "ab")), (None, None))
        self.assertEqual(shortest_unlike(whole, ("equal", "ab"), whole, ("equal", "b")), (1, 2))
        self.assertEqual(shortest_unlike(whole, ("equal", ""), whole, ("like", "????")), (4, 0))
        self.assertEqual(shortest_unlike(cut("ab", 5), ("like", "????"), whole, ("like", "????")), (None, None))
        self.assertEqual(shortest_unlike(whole, ("equal", "a"), whole, ("between", "b", "a")), (None, 1))
        self.assertIs(shortest_unlike(whole, ("equal", ""), whole, ("equal", "")).__class__, tuple)

    def test_each_answer_is_new(self):
        whole = plain("ab")
        for question in (("begins", "a"), ("begins", "")):
            one, other = [judge(whole, question, whole, ("begins", "a")) for _ in range(2)]
            self.assertEqual(one, other)
            self.assertIsNot(one, other)
            one.spots.clear()
            self.assertNotEqual(one, other)
            look = (whole, question, whole, ("begins", "a"))
            self.assertTrue(judge(*look).shows(*look))


def is_miss(look, value):
    index, question, machine, condition = look
    return meets(machine, condition, value) and not meets(index, question, value)


def is_more(look, value):
    index, question, machine, condition = look
    return meets(index, question, value) and not meets(machine, condition, value)


def sides(look, found):
    """The least number of letters on each side, from the shortest values of all spots."""
    missed = [len(value) for value in found.values() if is_miss(look, value)]
    more = [len(value) for value in found.values() if is_more(look, value)]
    return min(missed, default=None), min(more, default=None)


class SpotsTest(unittest.TestCase):
    def setUp(self):
        chance = random.Random(55)
        self.answers = []
        while len(self.answers) < 60:
            look = drawn_look(chance)
            answer = judge(*look)
            if not isinstance(answer, Misses) and len(answer.spots) < 60:
                self.answers.append((look, answer))

    def hold(self, look, answer, right):
        self.assertIs(answer.shows(*look), right, (look, answer.spots))

    def test_both_classes_are_there(self):
        self.assertEqual({answer.__class__ for _, answer in self.answers}, {Exact, More})

    def test_in_any_order_and_more_than_once(self):
        for look, answer in self.answers:
            self.hold(look, with_spots(answer, answer.spots[::-1]), True)
            self.hold(look, with_spots(answer, answer.spots * 2), True)
            self.hold(look, with_spots(answer, answer.spots + answer.spots[:1]), True)

    def test_a_spot_left_out(self):
        for look, answer in self.answers:
            for at in range(len(answer.spots)):
                self.hold(look, with_spots(answer, answer.spots[:at] + answer.spots[at + 1:]), False)
            self.hold(look, with_spots(answer, []), False)

    def test_the_first_one_left_out_where_no_letter_leads_to_it(self):
        short = cut("ab", 2)
        look = (short, ("begins", "a"), short, ("begins", "a"))
        answer = judge(*look)
        self.assertTrue(is_right(look, answer))
        self.hold(look, Exact(answer.spots[1:]), False)

    def test_spots_that_do_not_come_about(self):
        chance = random.Random(555)
        seen = set()
        for look, answer in self.answers:
            index, question, machine, condition = look
            for _ in range(12):
                spot = (chance.randrange(len(index)), chance.choice(slow.all_stands(question)))
                spot += (chance.randrange(len(machine)), chance.choice(slow.all_stands(condition)))
                for extra in ([spot], slow.closure([spot], lambda old: slow.spots_behind(*look, old))):
                    other = with_spots(answer, answer.spots + extra)
                    right = is_right(look, other)
                    self.hold(look, other, right)
                    if not set(extra) <= set(answer.spots):
                        seen.add((answer.__class__, right))
        self.assertEqual(len(seen), 4)

    def test_one_side_of_a_spot_that_does_not_come_about(self):
        whole = plain("ab")
        look = (whole, ("equal", "a"), whole, ("equal", "a"))
        spots = judge(*look).spots
        # In (0, 1, 0, -1) just the question is met, in (0, -1, 0, 1) just the condition.
        found, let_by, lost = (0, 1, 0, -1), (0, -1, 0, 1), (0, -1, 0, -1)
        self.assertIn(lost, spots)
        self.hold(look, Exact(spots + [found]), False)
        self.hold(look, Exact(spots + [let_by]), False)
        look = (whole, ("begins", "a"), whole, ("equal", "a"))
        answer = judge(*look)
        self.hold(look, answer, True)
        self.hold(look, More(answer.spots + [(0, 1, 0, -1)], "ab"), True)
        self.hold(look, More(answer.spots + [(0, -1, 0, 1), (0, -1, 0, -1)], "ab"), False)

    def test_a_part_changed(self):
        for look, answer in self.answers[:12]:
            index, question, machine, condition = look
            for at, spot in enumerate(answer.spots):
                for wrong in wrong_spots(index, question, machine, condition, spot):
                    self.hold(look, with_spots(answer, answer.spots[:at] + [wrong] + answer.spots[at + 1:]), False)
                    self.hold(look, with_spots(answer, answer.spots + [wrong]), False)

    def test_true_is_no_state_and_no_stand(self):
        double = Machine("ab", (((1, "a"), (1, "b")), ((1, "a"), (1, "b"))))
        look = (double, ("begins", "a"), double, ("begins", "a"))
        spots = judge(*look).spots
        self.assertIn((1, 1, 1, 1), spots)
        for at in range(4):
            wrong = (1,) * at + (True,) + (1,) * (3 - at)
            self.hold(look, Exact([wrong if spot == (1, 1, 1, 1) else spot for spot in spots]), False)
            self.hold(look, Exact(spots + [wrong]), False)

    def test_stands_of_each_kind(self):
        whole = plain("ab")
        for condition in (("equal", "ab"), ("begins", "ab"), ("between", "a", "ba"), ("like", "a*b")):
            look = (whole, condition, whole, condition)
            spots = judge(*look).spots
            good = slow.all_stands(condition)
            for now in good:
                extra = slow.closure([(0, now, 0, now)], lambda old: slow.spots_behind(*look, old))
                self.hold(look, Exact(spots + extra), True)
            for now in wrong_stands(condition):
                for spot in ((0, now, 0, good[0]), (0, good[0], 0, now), (0, now, 0, now)):
                    self.hold(look, Exact(spots + [spot]), False)


def wrong_stands(condition):
    """What is near to a stand of a condition, but none."""
    wrong = [None, True, False, "", "a", [], {}, [0], [0, 0], (True,), (0, 0, 0), object()]
    if condition[0] == "between":
        low, high = len(condition[1]), len(condition[2])
        wrong += [0, -1, (), (0,), (-3, 0), (0, -3), (low + 1, 0), (0, high + 1), [0, 0], (True, 0), (0, True)]
        wrong += [(False, 0), (None, 0), (0, None), ("", 0), ((0,), 0), (0, 0, 0)]
    elif condition[0] == "like":
        assert condition[1] == "a*b"
        wrong += [0, -1, 3, (-1,), (4,), (1,), (0, 1), (1, 3), (2, 1), (1, 1, 2), (0, 0), (3, 2), (1, 2, 2), (False,)]
        wrong += [(True, 2), [1, 2], [], (0, 4), ((0,),), ("a",), (None,)]
    else:
        wrong += [-2, len(condition[1]) + 1, (), (0,), "0"]
    return wrong


def wrong_spots(index, question, machine, condition, spot):
    """What is near to a spot, but none."""
    state, asked, other, now = spot
    wrong = [(), spot[:3], spot + (0,), spot[1:], (spot,), (list(spot),), ((state, asked), (other, now))]
    for bad in (-1, None, "0", (0,), [0], {}):
        wrong += [(bad, asked, other, now), (state, asked, bad, now)]
    wrong += [(len(index), asked, other, now), (state, asked, len(machine), now)]
    for bad in (None, "", [0], [0, 0], {}, 9, (9,), (9, 9), -3, (-3,), (-3, -3), (0, 0, 0), [asked], (asked,)):
        wrong.append((state, bad, other, now))
    for bad in (None, "", [0], [0, 0], {}, 9, (9,), (9, 9), -3, (-3,), (-3, -3), (0, 0, 0), [now], (now,)):
        wrong.append((state, asked, other, bad))
    for at in (0, 2):
        wrong.append(spot[:at] + (bool(spot[at]) if spot[at] < 2 else None,) + spot[at + 1:])
    return [thing for thing in wrong if not is_good(index, question, machine, condition, thing)]


def is_good(index, question, machine, condition, thing):
    """Whether something is a spot after all: other stands may be some that do not come about."""
    if len(thing) != 4 or isinstance(thing[0], bool) or isinstance(thing[2], bool):
        return False
    states = thing[0] in range(len(index)) and thing[2] in range(len(machine))
    return states and thing[1] in slow.all_stands(question) and thing[3] in slow.all_stands(condition)


class ValuesTest(unittest.TestCase):
    def test_which_values_show_a_miss(self):
        chance = random.Random(51)
        for _ in range(60):
            look = drawn_look(chance)
            for value in texts(look[0].letters, 3):
                self.assertIs(Misses(value).shows(*look), is_miss(look, value))

    def test_a_long_value(self):
        whole = plain("ab")
        look = (cut("ab", 5), ("begins", "ab"), whole, ("like", "*a"))
        self.assertIs(Misses("b" * 3000 + "a").shows(*look), True)
        self.assertIs(Misses("a" + "b" * 3000 + "a").shows(*look), False)

    def test_which_values_show_more(self):
        chance = random.Random(52)
        held = 0
        while held < 40:
            look = drawn_look(chance)
            answer = judge(*look)
            if isinstance(answer, More):
                held += 1
                for value in texts(look[0].letters, 3):
                    self.assertIs(More(answer.spots, value).shows(*look), is_more(look, value))

    def test_what_is_no_value(self):
        whole = plain("ab")
        for wrong in NOT_VALUES:
            self.assertIs(Misses(wrong).shows(whole, ("equal", "a"), whole, ("begins", "")), False)
            spots = judge(whole, ("begins", ""), whole, ("equal", "a")).spots
            self.assertIs(More(spots, wrong).shows(whole, ("begins", ""), whole, ("equal", "a")), False)

    def test_an_answer_that_is_not_due(self):
        whole, short = plain("ab"), cut("ab", 2)
        # A More of which the spots or the value show nothing, where an Exact or a Misses is due.
        exact = judge(short, ("equal", "ab"), whole, ("begins", "ab"))
        self.assertIs(More(exact.spots, "ab").shows(short, ("equal", "ab"), whole, ("begins", "ab")), False)
        self.assertIs(More(exact.spots, "").shows(short, ("equal", "ab"), whole, ("begins", "ab")), False)
        look = (whole, ("begins", "a"), whole, ("begins", "b"))
        spots = list(slow.spots_by_values(*look))
        self.assertIs(More(spots, "a").shows(*look), False)
        self.assertIs(Misses("b").shows(*look), True)
        self.assertIs(Exact(spots).shows(*look), False)
        # An Exact is wrong where a More is due, although the spots of a More are there.
        more = judge(whole, ("begins", "a"), whole, ("begins", "ab"))
        self.assertIs(Exact(more.spots).shows(whole, ("begins", "a"), whole, ("begins", "ab")), False)
        # Where more is found, and something is missed, too, both values are what they are.
        self.assertIs(Misses("a").shows(*look), False)


class LimitTest(unittest.TestCase):
    def test_400_spots(self):
        self.assertEqual(len(slow.spots_by_values(*SPOTS_400)), 400)
        answer = judge(*SPOTS_400)
        self.assertIs(answer.__class__, More)
        self.assertTrue(is_right(SPOTS_400, answer))
        self.assertTrue(answer.shows(*SPOTS_400))
        self.assertEqual(shortest_unlike(*SPOTS_400)[0], None)

    def test_401_spots(self):
        for look in (SPOTS_401, MISSES_401):
            self.assertEqual(len(slow.spots_by_values(*look)), 401)
            caught(TooLarge, judge, *look)
            caught(TooLarge, shortest_unlike, *look)

    def test_a_miss_does_not_help(self):
        self.assertTrue(any(is_miss(MISSES_401, value) for value in texts("ab", 3)))

    def test_shows_has_no_limit(self):
        spots = list(slow.spots_by_values(*SPOTS_401))
        value = [value for value in slow.spots_by_values(*SPOTS_401).values() if is_more(SPOTS_401, value)][0]
        self.assertIs(More(spots, value).shows(*SPOTS_401), True)
        self.assertIs(More(spots[:-1], value).shows(*SPOTS_401), False)
        self.assertIs(Exact(spots).shows(*SPOTS_401), False)
        missed = [value for value in texts("ab", 3) if is_miss(MISSES_401, value)][0]
        self.assertIs(Misses(missed).shows(*MISSES_401), True)


class FoundInTest(unittest.TestCase):
    def test_lists_and_tuples(self):
        short = cut("ab", 2)
        for kind in (list, tuple):
            given = kind(["ab", "abb", "a", "", "ab", "ba"])
            self.assertEqual(found_in(short, ("equal", "ab"), given), ["ab", "abb", "ab"])
            self.assertEqual(given, kind(["ab", "abb", "a", "", "ab", "ba"]))
            self.assertEqual(found_in(short, ("begins", "aaa"), given), [])
            self.assertEqual(found_in(short, ("begins", "a"), kind()), [])

    def test_against_meets(self):
        chance = random.Random(53)
        for _ in range(40):
            index, question, _, _ = drawn_look(chance)
            values = texts(index.letters, 3)[::-1]
            right = [value for value in values if meets(index, question, value)]
            self.assertEqual(found_in(index, question, values), right)

    def test_the_list_is_new(self):
        whole = plain("ab")
        given = ["a", "b"]
        found = found_in(whole, ("begins", ""), given)
        self.assertEqual(found, given)
        self.assertIsNot(found, given)
        found.append("b")
        self.assertEqual(given, ["a", "b"])
        self.assertEqual(found_in(whole, ("begins", ""), given), ["a", "b"])


if __name__ == "__main__":
    unittest.main()
