"""The least cut ([16]): how many letters an index must keep so that a filter can be served."""

import random
import unittest

import slow
from evidence import Case, ListsTest
from foldlook.cutting import Least, NoLeast, cut_for, least_cut
from foldlook.errors import BadCondition, BadMachine, TooLarge
from foldlook.machines import Machine, cut, mapped, plain, squeezed, stripped
from helper import (
    NOT_CONDITIONS, NOT_MACHINES, NOT_VALUES, caught, drawn_condition, drawn_machine, ready_machines, texts,
)
from large import FIVE_400, FIVE_401, FOUR_400, LATER_401, MUCH_LATER_401, ONE_401

AB = plain("ab")

# For each number a filter that can be served with it, but not with one less; the last one is never served.
FILTERS = [
    (AB, ("begins", "")), (AB, ("begins", "b")), (AB, ("begins", "ab")), (AB, ("equal", "ab")), (AB, ("equal", "aba")),
    (AB, ("equal", "abab")), (AB, ("like", "*b")),
]


def drawn_filter(chance, most=6):
    """A machine and a condition, some of them of a kind that a cut often serves."""
    letters = chance.choice(["ab", "ba", "abc"])
    machines = [plain(letters)] * 4 + ready_machines(letters) + [cut(letters, 3), cut(letters, 4), cut(letters, 5)]
    machines += [drawn_machine(chance, letters, most, chance.choice([0, 3])) for _ in machines]
    return chance.choice(machines), drawn_condition(chance, letters)


def pairs_of(number, machine, condition):
    """The pairs that come about with the index that is cut to a number, each with two values."""
    return slow.pairs_by_values(cut(machine.letters, number), machine, condition)


def is_mixed(number, machine, condition, one, other):
    """Whether two values show that the index that is cut to a number does not serve a filter."""
    return slow.is_mixed(cut(machine.letters, number), machine, condition, one, other)


def least_of(machine, condition):
    """The least number, from the words of [16], None if there is none, "large" if that is due."""
    for number in range(6):
        found = pairs_of(number, machine, condition)
        if len(found) > 400:
            return "large"
        if not any(is_mixed(number, machine, condition, *values) for values in found.values()):
            return number
    return None


def mixed_values(number, machine, condition, most=3):
    """Some pairs of values that show it."""
    values = texts(machine.letters, most)
    return [(one, other) for one in values for other in values if is_mixed(number, machine, condition, one, other)]


class CutForTest(unittest.TestCase):
    def test_each_number(self):
        for number, given in enumerate(FILTERS[:-1]):
            found = cut_for(*given)
            self.assertEqual((found.__class__, found.number), (Least, number))
            self.assertEqual(least_cut(*given), number)
            self.assertIs(found.shows(*given), True)
            self.assertIs(found.mixed is None, number == 0)
        found = cut_for(*FILTERS[-1])
        self.assertIs(found.__class__, NoLeast)
        self.assertIs(found.shows(*FILTERS[-1]), True)
        self.assertIsNone(least_cut(*FILTERS[-1]))

    def test_of_ready_machines(self):
        self.assertEqual(least_cut(cut("ab", 5), ("like", "*b")), 5)
        self.assertEqual(least_cut(cut("ab", 0), ("like", "*b")), 0)
        self.assertEqual(least_cut(cut("ab", 2), ("like", "*b")), 2)
        self.assertEqual(least_cut(mapped("ab", ("a", "a")), ("begins", "a")), 1)
        self.assertEqual(least_cut(mapped("ab", ("a", "a")), ("begins", "b")), 0)
        self.assertIsNone(least_cut(stripped("ab", "a"), ("begins", "b")))
        self.assertIsNone(least_cut(squeezed("ab", "a"), ("equal", "ab")))
        self.assertEqual(least_cut(squeezed("ab", "a"), ("begins", "b")), 1)
        self.assertEqual(least_cut(AB, ("between", "b", "a")), 0)
        self.assertEqual(least_cut(AB, ("between", "a", "b")), 2)
        self.assertEqual(least_cut(AB, ("between", "", "b")), 2)
        self.assertEqual(least_cut(AB, ("like", "????")), 5)
        self.assertEqual(least_cut(AB, ("like", "???*")), 3)
        # The one that makes each second letter.
        second = Machine("ab", (((1, ""), (1, "")), ((0, "a"), (0, "b"))))
        self.assertEqual(least_cut(second, ("begins", "a")), 2)
        self.assertEqual(least_cut(second, ("begins", "ab")), 4)
        self.assertIsNone(least_cut(second, ("begins", "aba")))

    def test_against_pairs_of_values(self):
        chance = random.Random(16)
        seen = {}
        for _ in range(300):
            given = drawn_filter(chance)
            due = least_of(*given)
            seen[due] = seen.get(due, 0) + 1
            if due == "large":
                caught(TooLarge, cut_for, *given)
                caught(TooLarge, least_cut, *given)
                continue
            found = cut_for(*given)
            self.assertEqual(least_cut(*given), due, given)
            self.assertIs(found.__class__, NoLeast if due is None else Least)
            self.assertIs(found.shows(*given), True, given)
            if due is not None:
                self.assertEqual(found.number, due)
                self.assertEqual(set(found.pairs), set(pairs_of(due, *given)))
            if due == 0:
                self.assertIsNone(found.mixed)
            else:
                self.assertTrue(is_mixed(5 if due is None else due - 1, *given, *found.mixed))
        self.assertEqual(set(seen), {0, 1, 2, 3, 4, 5, None, "large"})
        self.assertTrue(all(many > 10 for due, many in seen.items() if due != "large"), seen)

    def test_all_values_up_to_some_length(self):
        values = texts("ab", 6)
        chance = random.Random(160)
        for machine in (AB, mapped("ab", ("b", "")), cut("ab", 3), stripped("ab", "b"), squeezed("ab", "b")):
            for condition in [drawn_condition(chance, "ab") for _ in range(20)]:
                let_by = [value for value in values if slow.meets(machine, condition, value)]
                numbers = []
                for number in range(6):
                    keys = {value[:number] for value in let_by}
                    # In these, two values that do not go together are short.
                    numbers += [number] if {value for value in values if value[:number] in keys} == set(let_by) else []
                least = numbers[0] if numbers else None
                self.assertEqual(least_cut(machine, condition), least, (machine.rows, condition))

    def test_kinds_of_values(self):
        found = cut_for(*FILTERS[2])
        self.assertEqual((found.number.__class__, found.pairs.__class__, found.mixed.__class__), (int, list, tuple))
        self.assertEqual([value.__class__ for value in found.mixed], [str, str])
        self.assertEqual((cut_for(*FILTERS[-1]).mixed.__class__, len(cut_for(*FILTERS[-1]).mixed)), (tuple, 2))


def least_case(given, answer):
    """A Case of a Least."""
    machine, condition = given
    index = cut(machine.letters, answer.number)
    leg = (list(range(len(index))), list(range(len(machine))), slow.all_stands(condition))
    first = slow.leg_after(index, machine, condition, "")
    return Case(
        given, answer, "pairs", (leg, leg), (first, first),
        lambda pair: slow.pairs_behind(index, machine, condition, pair),
        lambda pair: slow.is_met(condition, pair[0][2]) == slow.is_met(condition, pair[1][2]),
    )


class PairsTest(ListsTest, unittest.TestCase):
    few = 12

    @classmethod
    def setUpClass(cls):
        cls.chance = random.Random(161)
        cls.cases = []
        # Two of each number, and then two of each again.
        numbers = [0, 0, 1, 1, 2, 2, 3, 3, 4, 4, 5, 5] * 2
        while len(cls.cases) < len(numbers):
            given = drawn_filter(cls.chance, 3)
            try:
                answer = cut_for(*given)
            except TooLarge:
                continue
            if isinstance(answer, Least) and answer.number == numbers[len(cls.cases)] and len(answer.pairs) < 40:
                cls.cases.append(least_case(given, answer))

    def test_pairs_of_another_number(self):
        for given in FILTERS[:-1]:
            found = cut_for(*given)
            for number in range(6):
                pairs = list(pairs_of(number, *given))
                self.assertIs(Least(found.number, pairs, found.mixed).shows(*given), number == found.number)


class LeastTest(unittest.TestCase):
    def test_another_number(self):
        for number, given in enumerate(FILTERS[:-1]):
            found = cut_for(*given)
            for other in (-10 ** 20, -2, -1, 0, 1, 2, 3, 4, 5, 6, 7, 10 ** 20):
                self.assertIs(Least(other, found.pairs, found.mixed).shows(*given), other == number, (given, other))
            for wrong in (True, False, None, "1", (1,), [1], str(number), (number,)):
                self.assertIs(Least(wrong, found.pairs, found.mixed).shows(*given), False)

    def test_true_as_a_number(self):
        found = cut_for(*FILTERS[1])
        self.assertIs(Least(1, found.pairs, found.mixed).shows(*FILTERS[1]), True)
        self.assertIs(Least(True, found.pairs, found.mixed).shows(*FILTERS[1]), False)
        found = cut_for(*FILTERS[0])
        self.assertIs(Least(0, found.pairs, None).shows(*FILTERS[0]), True)
        self.assertIs(Least(False, found.pairs, None).shows(*FILTERS[0]), False)

    def test_a_greater_number_with_what_is_right_for_it(self):
        # The pairs are there for each greater number, but there are no values for one letter less.
        for number, given in enumerate(FILTERS[:-1]):
            for other in range(number + 1, 6):
                pairs = list(pairs_of(other, *given))
                self.assertEqual(mixed_values(other - 1, *given), [])
                for mixed in (cut_for(*given).mixed, None, ("a", "b"), ("", "")):
                    self.assertIs(Least(other, pairs, mixed).shows(*given), False)

    def test_none_where_it_is_due_and_where_it_is_not(self):
        for number, given in enumerate(FILTERS[:-1]):
            found = cut_for(*given)
            self.assertIs(Least(number, found.pairs, None).shows(*given), number == 0)
        found = cut_for(*FILTERS[0])
        for wrong in (("a", "b"), ("", "a"), ("", ""), (), ("a",), (None, None), "", "ab", False, 0, ["a", "b"]):
            self.assertIs(Least(0, found.pairs, wrong).shows(*FILTERS[0]), False)

    def test_which_values_show_it(self):
        for number, given in enumerate(FILTERS[1:-1], 1):
            found = cut_for(*given)
            rights = 0
            for one in texts("ab", 4):
                for other in texts("ab", 4):
                    right = is_mixed(number - 1, *given, one, other)
                    self.assertIs(Least(number, found.pairs, (one, other)).shows(*given), right)
                    rights += right
            # With four letters alone, what has four and what has five are not told apart.
            self.assertEqual(rights > 0, number < 5)
            one, other = found.mixed
            self.assertIs(Least(number, found.pairs, (other, one)).shows(*given), False)
            for value in (one, other):
                self.assertIs(Least(number, found.pairs, (value, value)).shows(*given), False)

    def test_what_is_no_pair_of_values(self):
        given = FILTERS[2]
        pairs = cut_for(*given).pairs
        self.assertIs(Least(2, pairs, ("ab", "a")).shows(*given), True)
        for wrong in ((), ("ab",), ("ab", "a", "a"), ["ab", "a"], "ab", (("ab", "a"),), {"ab": "a"}, 0, True):
            self.assertIs(Least(2, pairs, wrong).shows(*given), False)
        for wrong in NOT_VALUES:
            self.assertIs(Least(2, pairs, (wrong, "a")).shows(*given), False)
            self.assertIs(Least(2, pairs, ("ab", wrong)).shows(*given), False)
        # Long ones are as good.
        self.assertIs(Least(2, pairs, ("ab" * 1500, "aa" * 1500)).shows(*given), True)

    def test_no_pairs(self):
        self.assertIs(Least(2, [], ("ab", "a")).shows(*FILTERS[2]), False)
        self.assertIs(Least(0, [], None).shows(*FILTERS[0]), False)

    def test_where_no_number_serves(self):
        for number in range(6):
            pairs = list(pairs_of(number, *FILTERS[-1]))
            for mixed in (None, ("aaaaab", "aaaaa"), ("b", "a")):
                self.assertIs(Least(number, pairs, mixed).shows(*FILTERS[-1]), False)


class NoLeastTest(unittest.TestCase):
    def test_which_values_show_it(self):
        for given in FILTERS:
            for one in ("", "aaaaa", "aaaaab", "aaaab", "bbbbbb", "bbbbba", "abab", "ababa"):
                for other in ("", "aaaaa", "aaaaab", "aaaab", "bbbbbb", "bbbbba", "abab", "ababa"):
                    self.assertIs(NoLeast((one, other)).shows(*given), is_mixed(5, *given, one, other))
        self.assertIs(NoLeast(("aaaaab", "aaaaa")).shows(*FILTERS[-1]), True)
        self.assertIs(NoLeast(("aaaaa", "aaaaab")).shows(*FILTERS[-1]), False)
        self.assertIs(NoLeast(("aaaaab", "aaaaabb")).shows(*FILTERS[-1]), False)
        # A pair for a lower number is not enough.
        self.assertIs(is_mixed(4, *FILTERS[-1], "aaaab", "aaaaa"), True)
        self.assertIs(NoLeast(("aaaab", "aaaaa")).shows(*FILTERS[-1]), False)

    def test_where_a_number_serves(self):
        chance = random.Random(162)
        for given in FILTERS[:-1]:
            for _ in range(200):
                start = "".join(chance.choice("ab") for _ in range(5))
                pair = tuple(start + chance.choice(["", "a", "b", "ab"]) for _ in range(2))
                self.assertIs(NoLeast(pair).shows(*given), False)

    def test_what_is_no_pair_of_values(self):
        good = ("aaaaab", "aaaaa")
        for wrong in (None, (), good[:1], good + good[:1], list(good), good[0], (good,), 5, True):
            self.assertIs(NoLeast(wrong).shows(*FILTERS[-1]), False)
        for wrong in NOT_VALUES:
            self.assertIs(NoLeast((good[0], wrong)).shows(*FILTERS[-1]), False)
            self.assertIs(NoLeast((wrong, good[1])).shows(*FILTERS[-1]), False)


class LimitTest(unittest.TestCase):
    def sizes(self, given):
        """How many pairs come about with each number."""
        return [len(pairs_of(number, *given)) for number in range(6)]

    def test_400_pairs(self):
        self.assertEqual(self.sizes(FOUR_400)[0], 400)
        self.assertEqual(least_cut(*FOUR_400), 4)
        self.assertIs(cut_for(*FOUR_400).shows(*FOUR_400), True)
        # With the last number, and there is none that serves.
        self.assertEqual(max(self.sizes(FIVE_400)), 400)
        self.assertEqual(self.sizes(FIVE_400)[5], 400)
        self.assertIs(cut_for(*FIVE_400).__class__, NoLeast)
        self.assertIs(cut_for(*FIVE_400).shows(*FIVE_400), True)
        self.assertIsNone(least_cut(*FIVE_400))

    def test_401_pairs(self):
        for given, number in ((ONE_401, 1), (FIVE_401, 5)):
            sizes = self.sizes(given)
            self.assertEqual(sizes[number], 401)
            self.assertLessEqual(max(sizes[:number]), 400)
            self.assertEqual(least_of(*given), "large")
            caught(TooLarge, cut_for, *given)
            caught(TooLarge, least_cut, *given)
        # From the first number on.
        given = (Machine("ab", tuple((((at + 1) % 6, "a"), (at, "b")) for at in range(6))), ("like", "*a??"))
        self.assertGreater(len(pairs_of(0, *given)), 400)
        caught(TooLarge, cut_for, *given)
        caught(TooLarge, least_cut, *given)

    def test_only_a_later_number_would_have_too_many(self):
        for given, number in ((LATER_401, 1), (MUCH_LATER_401, 5)):
            self.assertEqual(self.sizes(given)[number], 401)
            self.assertEqual(least_cut(*given), 0)
            self.assertIs(cut_for(*given).shows(*given), True)

    def test_shows_has_no_limit(self):
        pairs = list(pairs_of(1, *LATER_401))
        self.assertEqual(len(pairs), 401)
        for mixed in (None, ("", "a")):
            self.assertIs(Least(1, pairs, mixed).shows(*LATER_401), False)
        found = pairs_of(5, *FIVE_401)
        values = [values for values in found.values() if is_mixed(5, *FIVE_401, *values)][0]
        self.assertIs(NoLeast(values).shows(*FIVE_401), True)
        self.assertIs(NoLeast(values[::-1]).shows(*FIVE_401), False)


CALLS = [cut_for, least_cut, Least(0, [], None).shows, Least(1, [], ("a", "b")).shows, NoLeast(("a", "b")).shows]


class ErrorsTest(unittest.TestCase):
    def test_what_is_right(self):
        for call in CALLS:
            call(AB, ("equal", "a"))

    def test_what_is_not_a_machine(self):
        for call in CALLS:
            for wrong in NOT_MACHINES:
                self.assertIsNone(caught(BadMachine, call, wrong, ("equal", "a")).row)
                self.assertIsNone(caught(BadMachine, call, wrong, None).row)

    def test_what_is_not_a_condition(self):
        for call in CALLS:
            for wrong in NOT_CONDITIONS:
                caught(BadCondition, call, AB, wrong)
        for wrong in NOT_CONDITIONS:
            caught(BadCondition, cut_for, ONE_401[0], wrong)
            caught(BadCondition, least_cut, ONE_401[0], wrong)

    def test_of_an_answer_that_is_wrong_in_itself(self):
        for answer in (Least(True, [], None), Least(9, [()], 5), NoLeast(None)):
            caught(BadMachine, answer.shows, None, ("equal", "a"))
            caught(BadCondition, answer.shows, AB, None)


if __name__ == "__main__":
    unittest.main()
