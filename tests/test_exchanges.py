"""Exchanges ([10]): which values must be written anew if the machine of an index is exchanged."""

import random
import unittest

import sides
from evidence import Case, ListsTest
from foldlook.errors import BadMachine, BadQuestions, BadSize, BadValue, TooLarge, Unlike
from foldlook.exchanges import (
    Settled, Unsettled, count_rewrites, exchange, must_rewrite, shortest_rewrite,
)
from foldlook.machines import Machine, cut, mapped, plain, squeezed, stripped
from helper import (
    NOT_CONDITIONS, NOT_GROUPS, NOT_MACHINES, NOT_VALUES, caught, drawn_condition, drawn_machine, near_machine,
    ready_machines, texts,
)
from large import SETTLED_400, SETTLED_401, UNSETTLED_400, UNSETTLED_401

SMALL, WHOLE = mapped("Aa", ("a", "a")), plain("Aa")
AB = plain("ab")


def drawn_exchange(chance, most=6):
    """An elder and a newer machine, and questions, some of them of a kind that often settles."""
    letters = chance.choice(["ab", "ba", "abc", "_aAb"])
    ready = ready_machines(letters)
    elder = chance.choice(ready + [drawn_machine(chance, letters, most, 3) for _ in ready])
    near = [near_machine(chance, elder) for _ in range(len(ready))]
    newer = chance.choice(near + ready + [elder, drawn_machine(chance, letters, most, 3)])
    questions = [drawn_condition(chance, letters, 3) for _ in range(chance.randint(1, 3))]
    return elder, newer, questions


def rewritten(elder, newer, questions, value):
    """Whether a value must be written anew, from the words of [10]."""
    return any(sides.is_rewritten(elder, newer, question, value) for question in questions)


def count_all(elder, newer, questions, size):
    """How many values of a size must be written anew, one value after the other."""
    values = [value for value in texts(elder.letters, size) if len(value) == size]
    return len([value for value in values if rewritten(elder, newer, questions, value)])


def count_by_spots(elder, newer, questions, size):
    """How many values of a size must be written anew, from the words on spots."""
    first = sides.exchange_after(elder, newer, questions, "")
    known = {first: 1}
    for _ in range(size):
        behind = {}
        for spot, many in known.items():
            for there in sides.exchange_behind(elder, newer, questions, spot):
                behind[there] = behind.get(there, 0) + many
        known = behind
    return sum(many for spot, many in known.items() if not sides.is_settled_in(questions, spot))


class ExchangeTest(unittest.TestCase):
    def test_each_answer(self):
        self.assertIs(exchange(WHOLE, SMALL, [("like", "?")]).__class__, Settled)
        found = exchange(WHOLE, SMALL, [("like", "?"), ("equal", "a")])
        self.assertIs(found.__class__, Unsettled)
        self.assertEqual((found.value, found.which), ("A", 1))
        self.assertIs(exchange(WHOLE, WHOLE, [("equal", "Aa")]).__class__, Settled)
        self.assertIs(exchange(cut("ab", 5), AB, [("equal", "abab")]).__class__, Settled)
        self.assertIs(exchange(cut("ab", 4), AB, [("equal", "abab")]).__class__, Unsettled)

    def test_against_a_walk_by_values(self):
        chance = random.Random(10)
        seen = {}
        for _ in range(600):
            given = drawn_exchange(chance)
            found = sides.exchange_spots(*given)
            if len(found) > 400:
                caught(TooLarge, exchange, *given)
                continue
            least = min((len(value) for value in found.values() if rewritten(*given, value)), default=None)
            answer = exchange(*given)
            self.assertIs(answer.__class__, Settled if least is None else Unsettled, given)
            self.assertEqual(shortest_rewrite(*given), least, given)
            self.assertIs(answer.shows(*given), True, given)
            if least is None:
                self.assertEqual(set(answer.spots), set(found))
            else:
                self.assertTrue(sides.is_rewritten(*given[:2], given[2][answer.which], answer.value), given)
            key = (answer.__class__, len(given[2]))
            seen[key] = seen.get(key, 0) + 1
        self.assertEqual(len(seen), 6)
        self.assertTrue(all(many > 40 for many in seen.values()), seen)

    def test_all_values_up_to_some_length(self):
        values = texts("_ab", 4)
        machines = [plain("_ab"), mapped("_ab", ("", "b", "b")), cut("_ab", 1), stripped("_ab", "_")]
        machines += [squeezed("_ab", "_a")]
        conditions = [("equal", "ab"), ("begins", "b"), ("between", "_", "ab"), ("like", "*a?")]
        for elder in machines:
            for newer in machines:
                for at in range(4):
                    given = (elder, newer, (conditions * 2)[at:at + 1 + at % 3])
                    lengths = [len(value) for value in values if rewritten(*given, value)]
                    # In these, what comes about does so within few letters.
                    self.assertEqual(shortest_rewrite(*given), min(lengths, default=None), given)

    def test_least_numbers(self):
        self.assertEqual(shortest_rewrite(WHOLE, SMALL, [("equal", "a")]), 1)
        self.assertEqual(shortest_rewrite(SMALL, WHOLE, [("equal", "aa")]), 2)
        self.assertIsNone(shortest_rewrite(WHOLE, SMALL, [("like", "??")]))
        self.assertIsNone(shortest_rewrite(WHOLE, WHOLE, [("equal", "Aa")]))
        # The shortest one of all questions counts, wherever it stands.
        for asks in ([("equal", "aaa"), ("equal", "aa")], [("equal", "aa"), ("equal", "aaa")]):
            self.assertEqual(shortest_rewrite(WHOLE, SMALL, asks), 2)
        # Nothing is made of the empty value, so that no key of it is met by just one.
        self.assertEqual(shortest_rewrite(cut("ab", 0), AB, [("begins", "")]), None)
        self.assertEqual(shortest_rewrite(cut("ab", 0), AB, [("equal", "")]), 1)

    def test_both_directions_are_one(self):
        chance = random.Random(101)
        for _ in range(60):
            elder, newer, questions = drawn_exchange(chance, 4)
            self.assertEqual(shortest_rewrite(elder, newer, questions), shortest_rewrite(newer, elder, questions))

    def test_questions_as_a_tuple(self):
        asks = [("equal", "a"), ("like", "?")]
        for kind in (list, tuple):
            mine = kind(asks)
            found = exchange(WHOLE, SMALL, mine)
            self.assertIs(found.shows(WHOLE, SMALL, kind(asks)), True)
            self.assertEqual(shortest_rewrite(WHOLE, SMALL, mine), 1)
            self.assertIs(must_rewrite(WHOLE, SMALL, mine, "A"), True)
            self.assertEqual(count_rewrites(WHOLE, SMALL, mine, 1), 1)
            self.assertEqual(mine, kind(asks))

    def test_questions_are_not_kept(self):
        asks = [("like", "?"), ("equal", "aa")]
        found = exchange(WHOLE, WHOLE, asks)
        spots = list(found.spots)
        asks.clear()
        self.assertEqual(found.spots, spots)
        self.assertIs(found.shows(WHOLE, WHOLE, [("like", "?"), ("equal", "aa")]), True)


class SpotsTest(ListsTest, unittest.TestCase):
    few = 12

    @classmethod
    def setUpClass(cls):
        cls.chance = random.Random(102)
        cls.cases = []
        while len(cls.cases) < 40:
            given = drawn_exchange(cls.chance, 4)
            answer = exchange(*given)
            if isinstance(answer, Settled) and len(answer.spots) < 40:
                cls.cases.append(settled_case(given, answer))

    def test_cases_with_one_to_three_questions(self):
        self.assertEqual({len(case.given[2]) for case in self.cases}, {1, 2, 3})
        self.assertEqual({len(case.given[2]) for case in self.cases[:self.few]}, {1, 2, 3})

    def test_stands_of_each_question_count(self):
        asks = [("equal", "ab"), ("begins", "a"), ("like", "a*")]
        spots = exchange(AB, AB, asks).spots
        state, other, stands = spots[-1]
        for at, question in enumerate(asks):
            good = [now for now in sides.slow.all_stands(question) if not sides.slow.is_met(question, now)][0]
            met = [now for now in sides.slow.all_stands(question) if sides.slow.is_met(question, now)][0]
            for pair, right in (((good, good), True), ((met, good), False), ((good, met), False), ((met, met), True)):
                spot = (state, other, stands[:at] + (pair,) + stands[at + 1:])
                extra = sides.slow.closure([spot], lambda old: sides.exchange_behind(AB, AB, asks, old))
                self.assertIs(Settled(spots + extra).shows(AB, AB, asks), right, (question, pair))

    def test_true_is_no_state_and_no_stand(self):
        double = Machine("ab", (((1, "a"), (1, "b")), ((1, "a"), (1, "b"))))
        spots = exchange(double, double, [("begins", "a")]).spots
        good = (1, 1, ((1, 1),))
        self.assertIn(good, spots)
        for wrong in ((True, 1, ((1, 1),)), (1, True, ((1, 1),)), (1, 1, ((True, 1),)), (1, 1, ((1, True),))):
            changed = [wrong if spot == good else spot for spot in spots]
            self.assertIs(Settled(changed).shows(double, double, [("begins", "a")]), False)
            self.assertIs(Settled(spots + [wrong]).shows(double, double, [("begins", "a")]), False)

    def test_an_unsettled_exchange_has_no_spots(self):
        chance = random.Random(103)
        tried = 0
        while tried < 30:
            given = drawn_exchange(chance, 4)
            if isinstance(exchange(*given), Unsettled):
                tried += 1
                self.assertIs(Settled(list(sides.exchange_spots(*given))).shows(*given), False)
                self.assertIs(Settled([]).shows(*given), False)


def settled_case(given, answer):
    """A Case of a Settled."""
    return Case(
        given, answer, "spots", sides.exchange_shape(*given), sides.exchange_after(*given, ""),
        lambda spot: sides.exchange_behind(*given, spot), lambda spot: sides.is_settled_in(given[2], spot),
    )


class UnsettledTest(unittest.TestCase):
    def test_which_values_and_indices_show_it(self):
        chance = random.Random(104)
        rights = {}
        for _ in range(60):
            elder, newer, questions = drawn_exchange(chance)
            for value in texts(elder.letters, 3):
                for which, question in enumerate(questions):
                    right = sides.is_rewritten(elder, newer, question, value)
                    self.assertIs(Unsettled(value, which).shows(elder, newer, questions), right)
                    rights[which, right] = rights.get((which, right), 0) + 1
        self.assertEqual(len(rights), 6)

    def test_two_questions_that_are_met_by_one_key(self):
        asks = [("equal", "a"), ("like", "?"), ("begins", "a")]
        for which, right in ((0, True), (1, False), (2, True)):
            self.assertIs(Unsettled("A", which).shows(WHOLE, SMALL, asks), right)
        # It need not be the shortest value.
        self.assertIs(Unsettled("A" * 2000, 2).shows(WHOLE, SMALL, asks), True)
        self.assertIs(Unsettled("A" * 2000, 0).shows(WHOLE, SMALL, asks), False)

    def test_what_is_no_index(self):
        for many in (1, 2, 3):
            asks = [("equal", "a")] * many
            for which in range(many):
                self.assertIs(Unsettled("A", which).shows(WHOLE, SMALL, asks), True)
            for which in (-1, -many, many, many + 1, 10 ** 20, True, False, None, "0", (0,), [0]):
                self.assertIs(Unsettled("A", which).shows(WHOLE, SMALL, asks), False, which)

    def test_what_is_no_value(self):
        asks = [("begins", "a")]
        elder, newer = AB, mapped("ab", ("b", "a"))
        self.assertIs(Unsettled("a", 0).shows(elder, newer, asks), True)
        for wrong in NOT_VALUES:
            self.assertIs(Unsettled(wrong, 0).shows(elder, newer, asks), False, wrong)

    def test_a_settled_exchange(self):
        for value in texts("Aa", 4):
            self.assertIs(Unsettled(value, 0).shows(WHOLE, SMALL, [("like", "?*")]), False)


class CountTest(unittest.TestCase):
    def test_against_a_count_over_all_values(self):
        chance = random.Random(105)
        counted = 0
        for _ in range(80):
            given = drawn_exchange(chance)
            for size in range(5 if len(given[0].letters) == 2 else 4):
                right = count_all(*given, size)
                self.assertEqual(count_rewrites(*given, size), right, (given, size))
                counted += right > 0
        self.assertGreater(counted, 60)

    def test_long_ones(self):
        self.assertEqual(count_rewrites(WHOLE, SMALL, [("begins", "A")], 60), 1 << 59)
        self.assertEqual(count_rewrites(WHOLE, SMALL, [("begins", "a")], 60), 1 << 59)
        self.assertEqual(count_rewrites(plain("_aAb"), cut("_aAb", 0), [("like", "?*")], 60), 1 << 120)
        chance = random.Random(106)
        for _ in range(30):
            given = drawn_exchange(chance)
            for size in (7, 23, 60):
                self.assertEqual(count_rewrites(*given, size), count_by_spots(*given, size), given)

    def test_a_value_that_two_questions_are_about_counts_once(self):
        asks = [("equal", "a"), ("begins", "a"), ("like", "a")]
        self.assertEqual(count_rewrites(WHOLE, SMALL, asks, 1), 1)
        self.assertEqual(count_rewrites(WHOLE, SMALL, asks, 2), 2)

    def test_sizes(self):
        self.assertEqual(count_rewrites(WHOLE, SMALL, [("equal", "a")], 0), 0)
        self.assertEqual(count_rewrites(WHOLE, SMALL, [("equal", "a")], 60), 0)
        for wrong in (-1, 61, 10 ** 9, True, False, None, "1", (), [1]):
            caught(BadSize, count_rewrites, WHOLE, SMALL, [("equal", "a")], wrong)

    def test_must_rewrite(self):
        chance = random.Random(107)
        for _ in range(60):
            given = drawn_exchange(chance)
            for value in texts(given[0].letters, 3):
                self.assertIs(must_rewrite(*given, value), rewritten(*given, value))
        self.assertIs(must_rewrite(WHOLE, SMALL, [("like", "?"), ("begins", "a")], "A" * 3000), True)


class LimitTest(unittest.TestCase):
    def test_400_spots(self):
        for given, kind in ((SETTLED_400, Settled), (UNSETTLED_400, Unsettled)):
            self.assertEqual(len(sides.exchange_spots(*given)), 400)
            answer = exchange(*given)
            self.assertIs(answer.__class__, kind)
            self.assertIs(answer.shows(*given), True)
            self.assertEqual(shortest_rewrite(*given) is None, kind is Settled)
            for size in (0, 6):
                self.assertEqual(count_rewrites(*given, size), count_all(*given, size))

    def test_401_spots(self):
        for given in (SETTLED_401, UNSETTLED_401):
            self.assertEqual(len(sides.exchange_spots(*given)), 401)
            caught(TooLarge, exchange, *given)
            caught(TooLarge, shortest_rewrite, *given)
            # However short the values are that are counted.
            for size in (0, 1, 60):
                caught(TooLarge, count_rewrites, *given, size)

    def test_size_comes_ahead_of_what_is_too_large(self):
        for wrong in (-1, 61, True, None):
            caught(BadSize, count_rewrites, *SETTLED_401, wrong)

    def test_what_has_no_limit(self):
        spots = list(sides.exchange_spots(*SETTLED_401))
        self.assertIs(Settled(spots).shows(*SETTLED_401), True)
        self.assertIs(Settled(spots[:-1]).shows(*SETTLED_401), False)
        self.assertIs(must_rewrite(*SETTLED_401, "abab"), False)
        self.assertIs(must_rewrite(*UNSETTLED_401, "b"), True)
        rights = [Unsettled("b", which).shows(*UNSETTLED_401) for which in range(3)]
        self.assertEqual(rights, [sides.is_rewritten(*UNSETTLED_401[:2], ask, "b") for ask in UNSETTLED_401[2]])
        self.assertIn(True, rights)


# All that is called with an elder machine, a newer one, and questions, and with something more.
CALLS = [exchange, shortest_rewrite, Settled([]).shows, Unsettled("", 0).shows]
LONGER = [(must_rewrite, "a"), (count_rewrites, 1)]


def calls():
    return CALLS + [lambda *given, call=call, last=last: call(*given, last) for call, last in LONGER]


class ErrorsTest(unittest.TestCase):
    def test_what_is_right(self):
        for call in CALLS:
            call(AB, AB, [("equal", "a")])
        for call, last in LONGER:
            call(AB, AB, [("equal", "a")], last)

    def test_what_is_not_a_machine(self):
        for call in calls():
            for wrong in NOT_MACHINES:
                self.assertIsNone(caught(BadMachine, call, wrong, AB, [("equal", "a")]).row)
                self.assertIsNone(caught(BadMachine, call, AB, wrong, [("equal", "a")]).row)
                caught(BadMachine, call, wrong, plain("ba"), None)
                caught(BadMachine, call, plain("ba"), wrong, None)

    def test_other_letters(self):
        for call in calls():
            for letters in ("ba", "abc", "aB", "cd"):
                caught(Unlike, call, AB, plain(letters), [("equal", "a")])
                caught(Unlike, call, plain(letters), AB, None)
                caught(Unlike, call, plain(letters), AB, [])

    def test_what_are_no_questions(self):
        for call in calls():
            for wrong in NOT_GROUPS + [[("equal", "a")] * 4, (("equal", "a"),) * 4, [None] * 4]:
                self.assertIsNone(caught(BadQuestions, call, AB, AB, wrong).index)

    def test_an_item_that_is_no_condition(self):
        for call in calls():
            for many in (1, 2, 3):
                for at in range(many):
                    for wrong in NOT_CONDITIONS:
                        asks = [("equal", "a")] * at + [wrong] + [("like", "*")] * (many - at - 1)
                        self.assertEqual(caught(BadQuestions, call, AB, AB, asks).index, at)
                        self.assertEqual(caught(BadQuestions, call, AB, AB, tuple(asks)).index, at)
            # The first one counts.
            self.assertEqual(caught(BadQuestions, call, AB, AB, [("equal", "a"), None, None]).index, 1)
            self.assertEqual(caught(BadQuestions, call, AB, AB, [None, None, None]).index, 0)

    def test_questions_come_ahead_of_values_and_sizes(self):
        for wrong in NOT_VALUES:
            caught(BadValue, must_rewrite, AB, AB, [("equal", "a")], wrong)
            caught(BadQuestions, must_rewrite, AB, AB, [("equal", "c")], wrong)
            caught(Unlike, must_rewrite, AB, plain("ac"), [("equal", "a")], wrong)
            caught(BadValue, must_rewrite, *SETTLED_401, wrong)
        for wrong in (-1, 61, True, None):
            caught(BadQuestions, count_rewrites, AB, AB, [], wrong)
            caught(Unlike, count_rewrites, AB, plain("ac"), [("equal", "a")], wrong)
            caught(BadMachine, count_rewrites, None, AB, [("equal", "a")], wrong)

    def test_questions_come_ahead_of_what_is_too_large(self):
        elder, newer, asks = SETTLED_401
        for call in (exchange, shortest_rewrite):
            self.assertEqual(caught(BadQuestions, call, elder, newer, list(asks) + [None]).index, len(asks))
            caught(Unlike, call, elder, plain("ba"), asks)
        caught(BadQuestions, count_rewrites, elder, newer, asks * 2, 1)


if __name__ == "__main__":
    unittest.main()
