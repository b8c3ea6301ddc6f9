"""Vain questions ([15]): whether a question to an index finds anything, and whether it finds all."""

import random
import unittest

import sides
import slow
from evidence import Case, ListsTest
from foldlook.conditions import meets
from foldlook.errors import BadCondition, BadMachine
from foldlook.finding import Hits, Vain, find, finds_all, is_vain, shortest_hit
from foldlook.machines import Machine, cut, mapped, plain, squeezed, stripped
from helper import (
    NOT_CONDITIONS, NOT_MACHINES, NOT_VALUES, caught, drawn_condition, drawn_machine, ready_machines, texts,
)

AB, SHORT, NONE = plain("ab"), cut("ab", 2), mapped("ab", ("", ""))


def drawn_search(chance, most=6):
    """An index and a question to it."""
    letters = chance.choice(["ab", "ba", "abc", "_aAb"])
    machines = ready_machines(letters)
    machines += [drawn_machine(chance, letters, most, chance.choice([3, 8, 10])) for _ in machines]
    broad = [("like", "*"), ("begins", ""), ("between", "", letters[-1] * 4), ("like", "?*")]
    drawn = [drawn_condition(chance, letters) for _ in broad]
    return chance.choice(machines), chance.choice(broad + drawn * 3)


class FindTest(unittest.TestCase):
    def test_each_answer(self):
        self.assertIs(find(SHORT, ("equal", "aba")).__class__, Vain)
        found = find(SHORT, ("equal", "ab"))
        self.assertEqual((found.__class__, found.value), (Hits, "ab"))
        self.assertIs(find(stripped("ab", "a"), ("begins", "a")).__class__, Vain)
        self.assertIs(find(stripped("ab", "a"), ("like", "ba")).__class__, Hits)
        self.assertIs(find(squeezed("ab", "a"), ("like", "*aa")).__class__, Vain)
        self.assertIs(find(squeezed("ab", "a"), ("like", "*bb")).__class__, Hits)
        self.assertIs(find(mapped("ab", ("a", "a")), ("like", "*b*")).__class__, Vain)
        self.assertIs(find(AB, ("between", "b", "a")).__class__, Vain)
        self.assertIs(find(AB, ("between", "b", "b")).__class__, Hits)
        self.assertEqual(find(AB, ("like", "*")).value, "")

    def test_against_a_walk_by_values(self):
        chance = random.Random(15)
        seen = {Vain: 0, Hits: 0}
        all_found = 0
        for _ in range(900):
            index, question = given = drawn_search(chance)
            found = sides.search_spots(index, question)
            hits = [value for value in found.values() if meets(index, question, value)]
            answer = find(*given)
            self.assertIs(answer.__class__, Hits if hits else Vain, given)
            self.assertIs(is_vain(*given), hits == [], given)
            self.assertEqual(shortest_hit(*given), min((len(value) for value in hits), default=None), given)
            self.assertIs(finds_all(*given), len(hits) == len(found), given)
            self.assertIs(answer.shows(*given), True, given)
            if hits:
                self.assertTrue(meets(index, question, answer.value))
            else:
                self.assertEqual(set(answer.spots), set(found))
            seen[answer.__class__] += 1
            all_found += len(hits) == len(found)
        self.assertTrue(all(many > 100 for many in seen.values()), seen)
        self.assertGreater(all_found, 60)

    def test_all_values_up_to_some_length(self):
        values = texts("_ab", 5)
        machines = [plain("_ab"), mapped("_ab", ("", "b", "b")), cut("_ab", 1), cut("_ab", 4), stripped("_ab", "_")]
        machines += [squeezed("_ab", "_a"), squeezed("_ab", "_ab"), mapped("_ab", ("", "", ""))]
        chance = random.Random(150)
        for index in machines:
            for question in [drawn_condition(chance, "_ab") for _ in range(30)]:
                hits = [value for value in values if meets(index, question, value)]
                # In these, what comes about does so within few letters.
                self.assertEqual(shortest_hit(index, question), len(hits[0]) if hits else None, (index.rows, question))
                self.assertIs(is_vain(index, question), hits == [])
                self.assertIs(finds_all(index, question), hits == values)

    def test_least_numbers(self):
        self.assertEqual(shortest_hit(SHORT, ("like", "?b")), 2)
        self.assertEqual(shortest_hit(AB, ("begins", "")), 0)
        self.assertEqual(shortest_hit(AB, ("like", "????")), 4)
        self.assertEqual(shortest_hit(stripped("ab", "a"), ("equal", "ba")), 2)
        self.assertEqual(shortest_hit(AB, ("between", "b", "bb")), 1)
        self.assertIsNone(shortest_hit(SHORT, ("like", "???")))
        self.assertIsNone(shortest_hit(NONE, ("like", "?*")))
        self.assertEqual(shortest_hit(NONE, ("equal", "")), 0)
        # Each second letter makes one, so that four take eight.
        slow_one = Machine("ab", (((1, ""), (1, "")), ((0, "a"), (0, "b"))))
        self.assertEqual(shortest_hit(slow_one, ("equal", "abba")), 8)
        self.assertEqual(find(slow_one, ("equal", "abba")).value[1::2], "abba")

    def test_questions_that_find_all(self):
        for index in (AB, SHORT, NONE, squeezed("ab", "a")):
            for question in (("like", "*"), ("like", "**"), ("begins", "")):
                self.assertIs(finds_all(index, question), True)
        self.assertIs(finds_all(cut("ab", 0), ("equal", "")), True)
        self.assertIs(finds_all(NONE, ("between", "", "")), True)
        self.assertIs(finds_all(NONE, ("like", "?*")), False)
        self.assertIs(finds_all(AB, ("begins", "a")), False)
        self.assertIs(finds_all(AB, ("like", "?*")), False)
        self.assertIs(finds_all(AB, ("between", "", "bbbb")), False)
        self.assertIs(finds_all(cut("ab", 4), ("between", "", "bbbb")), True)
        self.assertIs(finds_all(cut("ab", 5), ("between", "", "bbbb")), False)
        self.assertIs(finds_all(AB, ("between", "b", "a")), False)

    def test_as_many_spots_as_there_may_be(self):
        # Six states, and as many stands as there may be.
        chance = random.Random(151)
        most = 0
        for _ in range(150):
            given = (drawn_machine(chance, "ab", 6, 2), ("between", "abab", "abba"))
            most = max(most, len(sides.search_spots(*given)))
            self.assertIs(find(*given).shows(*given), True)
        self.assertGreater(most, 40)

    def test_kinds_of_values(self):
        found = find(SHORT, ("equal", "aba"))
        self.assertEqual((found.spots.__class__, found.spots[0].__class__), (list, tuple))
        self.assertIs(find(AB, ("equal", "a")).value.__class__, str)
        self.assertIs(is_vain(AB, ("equal", "a")).__class__, bool)
        self.assertIs(finds_all(AB, ("equal", "a")).__class__, bool)


def search_case(given, answer):
    """A Case of a Vain."""
    index, question = given
    return Case(
        given, answer, "spots", sides.search_shape(index, question), sides.search_after(index, question, ""),
        lambda spot: sides.search_behind(index, question, spot), lambda spot: not slow.is_met(question, spot[1]),
    )


class SpotsTest(ListsTest, unittest.TestCase):
    few = 12

    @classmethod
    def setUpClass(cls):
        cls.chance = random.Random(152)
        cls.cases = []
        words = []
        while len(cls.cases) < 40:
            given = drawn_search(cls.chance, 4)
            answer = find(*given)
            # As many of each kind of conditions.
            if isinstance(answer, Vain) and words.count(given[1][0]) < 10:
                words.append(given[1][0])
                cls.cases.append(search_case(given, answer))

    def test_stands_of_each_kind(self):
        for question in (("equal", "ab"), ("begins", "ab"), ("between", "a", "ba"), ("like", "a*b")):
            given = (NONE, question)
            spots = find(*given).spots
            self.assertEqual(len(spots), 1)
            for now in slow.all_stands(question):
                # Nothing is made, so that no letter leads away.
                right = not slow.is_met(question, now)
                self.assertIs(Vain(spots + [(0, now)]).shows(*given), right)
                self.assertIs(Vain([(0, now)] + spots).shows(*given), right)

    def test_true_is_no_state_and_no_stand(self):
        index = Machine("ab", (((1, ""), (1, "")), ((1, "a"), (1, "a"))))
        question = ("equal", "ab")
        spots = find(index, question).spots
        for good in ((1, 1), (0, 0), (1, 0)):
            for at in range(2):
                wrong = good[:at] + (bool(good[at]),) + good[at + 1:]
                self.assertIn(good, spots)
                self.assertIs(Vain([wrong if spot == good else spot for spot in spots]).shows(index, question), False)
                self.assertIs(Vain(spots + [wrong]).shows(index, question), False)

    def test_a_question_that_is_not_vain(self):
        chance = random.Random(153)
        tried = 0
        while tried < 60:
            given = drawn_search(chance, 4)
            if not is_vain(*given):
                tried += 1
                spots = list(sides.search_spots(*given))
                self.assertIs(Vain(spots).shows(*given), False)
                self.assertIs(Vain([spot for spot in spots if not slow.is_met(given[1], spot[1])]).shows(*given), False)
                self.assertIs(Vain([]).shows(*given), False)


class HitsTest(unittest.TestCase):
    def test_which_values_are_found(self):
        chance = random.Random(154)
        rights = {True: 0, False: 0}
        for _ in range(100):
            given = drawn_search(chance)
            for value in texts(given[0].letters, 3):
                right = meets(*given, value)
                self.assertIs(Hits(value).shows(*given), right)
                rights[right] += 1
        self.assertTrue(all(many > 500 for many in rights.values()), rights)

    def test_it_need_not_be_the_shortest_one(self):
        self.assertIs(Hits("b" * 3000).shows(AB, ("like", "b*b")), True)
        self.assertIs(Hits("b" * 3000).shows(AB, ("like", "b*a")), False)
        self.assertIs(Hits("ab" * 1500).shows(SHORT, ("equal", "ab")), True)

    def test_what_is_no_value(self):
        for wrong in NOT_VALUES:
            self.assertIs(Hits(wrong).shows(AB, ("like", "*")), False)

    def test_a_vain_question(self):
        for value in texts("ab", 4):
            self.assertIs(Hits(value).shows(SHORT, ("equal", "aba")), False)
            self.assertIs(Hits(value).shows(AB, ("between", "b", "a")), False)


CALLS = [find, is_vain, shortest_hit, finds_all, Vain([]).shows, Hits("").shows]


class ErrorsTest(unittest.TestCase):
    def test_what_is_right(self):
        for call in CALLS:
            call(AB, ("equal", "a"))

    def test_what_is_not_a_machine(self):
        for call in CALLS:
            for wrong in NOT_MACHINES:
                self.assertIsNone(caught(BadMachine, call, wrong, ("equal", "a")).row)
                self.assertIsNone(caught(BadMachine, call, wrong, None).row)

    def test_what_is_not_a_condition(self):
        for call in CALLS:
            for wrong in NOT_CONDITIONS:
                caught(BadCondition, call, AB, wrong)
            caught(BadCondition, call, plain("Aa"), ("equal", "b"))
            call(plain("Aa"), ("equal", "A"))


if __name__ == "__main__":
    unittest.main()
