"""Questions together ([14]): what several questions find of the rows of a filter."""

import random
import unittest
from itertools import product

import sides
import slow
from evidence import Case, ListsTest
from foldlook.conditions import meets
from foldlook.errors import BadCondition, BadLooks, BadMachine, BadWay, TooLarge
from foldlook.joining import Beyond, Fits, Lacks, combine, fits, shortest_apart
from foldlook.machines import Machine, cut, mapped, plain, squeezed, stripped
from helper import (
    NOT_CONDITIONS, NOT_GROUPS, NOT_MACHINES, NOT_VALUES, caught, drawn_condition, drawn_machine, ready_machines, texts,
)
from large import BEYOND_400, BEYOND_401, FITS_400, FITS_401, LACKS_400, LACKS_401

WAYS = ("all", "any")


class Same:
    """What says that it is equal to anything."""

    def __eq__(self, other):
        return True


NOT_WAYS = [
    None, 0, 1, True, False, "", "ALL", "Any", "all ", " any", "any\n", "both", "allany", "al", b"all", ["all"],
    ("any",), {"all"}, {"any": "any"}, object(), Same(),
]
AB, SHORT, SMALL = plain("ab"), cut("ab", 1), mapped("ab", ("a", "a"))


def drawn_joint(chance, most=6):
    """Looks, a way, a machine and a condition, some of them of a kind that often fits."""
    letters = chance.choice(["ab", "ba", "abc", "_aAb"])
    machines = ready_machines(letters)
    machines += [drawn_machine(chance, letters, most, 3) for _ in machines]
    machine, condition, way = chance.choice(machines), drawn_condition(chance, letters, 3), chance.choice(WAYS)
    # What finds all, or nothing, does not matter beside another question.
    idle = ("begins", "") if way == "all" else ("between", letters[1], letters[0])
    looks = []
    for _ in range(chance.randint(1, 3)):
        question = chance.choice([condition, condition, idle, drawn_condition(chance, letters, 3)])
        looks.append((chance.choice([machine, machine, chance.choice(machines)]), question))
    return looks, way, machine, condition


def is_lacking(looks, way, machine, condition, value):
    """Whether a value is let by, but not found."""
    return meets(machine, condition, value) and not sides.is_found(looks, way, value)


def is_more(looks, way, machine, condition, value):
    """Whether a value is found, but not let by."""
    return sides.is_found(looks, way, value) and not meets(machine, condition, value)


def spots_of(looks, way, machine, condition):
    """The spots that come about, each with a shortest value."""
    return sides.joint_spots(looks, machine, condition)


def least(given, values):
    """The least number of letters on each side, among some values."""
    lacking = [len(value) for value in values if is_lacking(*given, value)]
    more = [len(value) for value in values if is_more(*given, value)]
    return min(lacking, default=None), min(more, default=None)


class CombineTest(unittest.TestCase):
    def test_each_answer(self):
        looks = [(AB, ("like", "?b")), (SHORT, ("equal", "a"))]
        self.assertIs(combine(looks, "all", AB, ("equal", "ab")).__class__, Fits)
        self.assertIs(combine(looks, "any", AB, ("equal", "ab")).__class__, Beyond)
        self.assertIs(combine(looks, "any", AB, ("begins", "a")).__class__, Beyond)
        self.assertIs(combine(looks, "all", AB, ("begins", "a")).__class__, Lacks)
        self.assertIs(combine(looks[1:], "all", AB, ("begins", "a")).__class__, Fits)
        # Both sides are there: then it is a Lacks.
        self.assertIs(combine([(AB, ("begins", "a"))], "any", AB, ("begins", "b")).__class__, Lacks)

    def test_ways(self):
        looks = [(AB, ("begins", "a")), (AB, ("like", "*b"))]
        both, one = ("like", "a*b"), ("like", "*")
        self.assertEqual([fits(looks, way, AB, both) for way in WAYS], [True, False])
        self.assertEqual([fits(looks, way, AB, one) for way in WAYS], [False, False])
        self.assertEqual([shortest_apart(looks, way, AB, both) for way in WAYS], [(None, None), (None, 1)])
        self.assertEqual([shortest_apart(looks, way, AB, one) for way in WAYS], [(0, None), (0, None)])
        # With one question, both ways are the same.
        for question in (("equal", "a"), ("like", "a*"), ("between", "b", "a")):
            found = [shortest_apart([(AB, question)], way, AB, ("begins", "a")) for way in WAYS]
            self.assertEqual(found[0], found[1])

    def test_two_halves(self):
        # What either question finds alone lacks something; together they find just what is wanted.
        looks = [(AB, ("begins", "a")), (AB, ("begins", "b"))]
        for at in range(2):
            self.assertIs(combine(looks[at:at + 1], "any", AB, ("like", "?*")).__class__, Lacks)
        self.assertIs(fits(looks, "any", AB, ("like", "?*")), True)
        self.assertIs(fits(looks, "all", AB, ("between", "b", "a")), True)
        looks = [(SMALL, ("like", "??")), (AB, ("begins", "b")), (AB, ("like", "*a"))]
        self.assertIs(fits(looks, "all", AB, ("equal", "ba")), True)
        self.assertIs(fits(looks[:2], "all", AB, ("equal", "ba")), False)

    def test_against_a_walk_by_values(self):
        chance = random.Random(14)
        seen = {}
        for _ in range(900):
            given = drawn_joint(chance)
            found = spots_of(*given)
            if len(found) > 400:
                caught(TooLarge, combine, *given)
                continue
            lacking, more = least(given, list(found.values()))
            due = Lacks if lacking is not None else Beyond if more is not None else Fits
            answer = combine(*given)
            self.assertIs(answer.__class__, due, given)
            self.assertEqual(shortest_apart(*given), (lacking, more), given)
            self.assertIs(fits(*given), due is Fits, given)
            self.assertIs(answer.shows(*given), True, given)
            if due is Lacks:
                self.assertTrue(is_lacking(*given, answer.value))
            else:
                self.assertEqual(set(answer.spots), set(found))
            if due is Beyond:
                self.assertTrue(is_more(*given, answer.value))
            key = (due, given[1], len(given[0]))
            seen[key] = seen.get(key, 0) + 1
        self.assertEqual(len(seen), 18)
        self.assertTrue(all(many > 5 for many in seen.values()), seen)

    def test_all_values_up_to_some_length(self):
        values = texts("_ab", 4)
        machines = [plain("_ab"), mapped("_ab", ("", "b", "b")), cut("_ab", 1), stripped("_ab", "_")]
        machines += [squeezed("_ab", "_a")]
        conditions = [("equal", "ab"), ("begins", "b"), ("between", "_", "ab"), ("like", "*a?")]
        chance = random.Random(140)
        for _ in range(150):
            looks = [(chance.choice(machines), chance.choice(conditions)) for _ in range(chance.randint(1, 3))]
            given = (looks, chance.choice(WAYS), chance.choice(machines), chance.choice(conditions))
            # In these, what comes about does so within few letters.
            self.assertEqual(shortest_apart(*given), least(given, values), given)

    def test_least_numbers(self):
        looks = [(AB, ("like", "?b")), (SHORT, ("equal", "a"))]
        self.assertEqual(shortest_apart(looks, "all", AB, ("equal", "ab")), (None, None))
        self.assertEqual(shortest_apart(looks, "any", AB, ("equal", "ab")), (None, 1))
        self.assertEqual(shortest_apart(looks, "all", AB, ("like", "*")), (0, None))
        self.assertEqual(shortest_apart(looks, "any", AB, ("equal", "ba")), (2, 1))
        self.assertEqual(shortest_apart(looks, "all", AB, ("like", "??b")), (3, 2))
        self.assertEqual(shortest_apart([(AB, ("equal", ""))], "all", AB, ("like", "????")), (4, 0))
        self.assertIs(shortest_apart(looks, "all", AB, ("equal", "ab")).__class__, tuple)

    def test_looks_as_a_tuple(self):
        looks = [(AB, ("like", "?b")), (SHORT, ("equal", "a"))]
        for kind in (list, tuple):
            mine = kind(looks)
            for condition in (("equal", "ab"), ("equal", "abb"), ("equal", "bb")):
                self.assertEqual(combine(mine, "all", AB, condition), combine(looks, "all", AB, condition))
                self.assertIs(combine(looks, "all", AB, condition).shows(mine, "all", AB, condition), True)
                self.assertEqual(
                    shortest_apart(mine, "any", AB, condition), shortest_apart(looks, "any", AB, condition),
                )
            self.assertIs(fits(mine, "all", AB, ("equal", "ab")), True)
            self.assertEqual(mine, kind(looks))

    def test_looks_are_not_kept(self):
        looks = [(AB, ("begins", "a")), (SHORT, ("equal", "a"))]
        answer = combine(looks, "all", AB, ("begins", "a"))
        spots = list(answer.spots)
        again = list(looks)
        looks.clear()
        self.assertEqual(answer.spots, spots)
        self.assertIs(answer.shows(again, "all", AB, ("begins", "a")), True)

    def test_the_order_of_looks_changes_no_answer(self):
        chance = random.Random(141)
        for _ in range(60):
            looks, way, machine, condition = drawn_joint(chance, 3)
            found = shortest_apart(looks, way, machine, condition)
            self.assertEqual(shortest_apart(looks[::-1], way, machine, condition), found)


def joint_case(given, answer):
    """A Case of a Fits or a Beyond."""
    looks, way, machine, condition = given
    more = isinstance(answer, Beyond)

    def holds(spot):
        found, let_by = sides.is_found_in(looks, way, spot), slow.is_met(condition, spot[2])
        return found == let_by or more and found

    return Case(
        given, answer, "spots", sides.joint_shape(looks, machine, condition),
        sides.joint_after(looks, machine, condition, ""),
        lambda spot: sides.joint_behind(looks, machine, condition, spot), holds,
    )


class SpotsTest(ListsTest, unittest.TestCase):
    few = 12

    @classmethod
    def setUpClass(cls):
        cls.chance = random.Random(142)
        # The first few have one of each kind, and so have the next ones.
        kinds = list(product((Fits, Beyond), WAYS, (1, 2, 3))) * 3
        cls.cases = []
        while len(cls.cases) < len(kinds):
            given = drawn_joint(cls.chance, 4)
            answer = combine(*given)
            if (answer.__class__, given[1], len(given[0])) == kinds[len(cls.cases)] and len(answer.spots) < 25:
                cls.cases.append(joint_case(given, answer))

    def test_the_number_of_looks(self):
        looks = [(AB, ("begins", "a"))] * 3
        for many in (1, 2, 3):
            for way in WAYS:
                spots = combine(looks[:many], way, AB, ("begins", "a")).spots
                for other in (1, 2, 3):
                    right = other == many
                    self.assertIs(Fits(spots).shows(looks[:other], way, AB, ("begins", "a")), right)
                for spot in spots:
                    for places in (spot[0][1:], spot[0] + spot[0][:1], ()):
                        wrong = (places,) + spot[1:]
                        self.assertIs(Fits(spots + [wrong]).shows(looks[:many], way, AB, ("begins", "a")), False)

    def test_each_question_counts(self):
        looks = [(AB, ("equal", "ab")), (AB, ("begins", "a")), (AB, ("like", "a*"))]
        condition = ("begins", "a")
        for way in WAYS:
            given = (looks, way, AB, condition)
            spots = list(spots_of(*given))
            for met in range(8):
                places = []
                for at, (_, question) in enumerate(looks):
                    wanted = bool(met >> at & 1)
                    stands = [now for now in slow.all_stands(question) if slow.is_met(question, now) == wanted]
                    places.append((0, stands[-1]))
                found = met == 7 if way == "all" else met > 0
                for now in (-1, 1):
                    spot = (tuple(places), 0, now)
                    extra = slow.closure([spot], lambda old: sides.joint_behind(looks, AB, condition, old))
                    # What the spots that come about say is left to the tests above.
                    case = joint_case(given, Fits([]))
                    right = case.is_right(spots + extra)
                    self.assertIs(Fits(spots + extra).shows(*given), right, (way, spot))
                    if found != (now == 1):
                        self.assertIs(right, False)

    def test_true_is_no_state_and_no_stand(self):
        double = Machine("ab", (((1, "a"), (1, "b")), ((1, "a"), (1, "b"))))
        given = ([(double, ("begins", "a"))], "all", double, ("begins", "a"))
        good = (((1, 1),), 1, 1)
        spots = combine(*given).spots
        self.assertIn(good, spots)
        for wrong in ((((True, 1),), 1, 1), (((1, True),), 1, 1), (((1, 1),), True, 1), (((1, 1),), 1, True)):
            self.assertIs(Fits([wrong if spot == good else spot for spot in spots]).shows(*given), False)
            self.assertIs(Fits(spots + [wrong]).shows(*given), False)
            self.assertIs(Beyond(spots + [wrong], "b").shows(*given), False)

    def test_the_other_way(self):
        looks = [(AB, ("begins", "a")), (AB, ("like", "*b"))]
        answer = combine(looks, "all", AB, ("like", "a*b"))
        self.assertEqual([answer.shows(looks, way, AB, ("like", "a*b")) for way in WAYS], [True, False])
        self.assertIs(Beyond(answer.spots, "b").shows(looks, "any", AB, ("like", "a*b")), True)
        self.assertIs(Beyond(answer.spots, "b").shows(looks, "all", AB, ("like", "a*b")), False)
        lacks = Lacks("a")
        self.assertEqual([lacks.shows(looks, way, AB, ("equal", "a")) for way in WAYS], [True, False])
        # Where all questions agree, one answer is right both ways.
        looks = [(AB, ("begins", "a")), (AB, ("like", "a*"))]
        answer = combine(looks, "all", AB, ("begins", "a"))
        self.assertEqual([answer.shows(looks, way, AB, ("begins", "a")) for way in WAYS], [True, True])

    def test_a_lacking_value_leaves_no_spots(self):
        chance = random.Random(143)
        tried = 0
        while tried < 40:
            given = drawn_joint(chance, 3)
            if isinstance(combine(*given), Lacks):
                tried += 1
                spots = list(spots_of(*given))
                self.assertIs(Fits(spots).shows(*given), False)
                for value in texts(given[2].letters, 2):
                    self.assertIs(Beyond(spots, value).shows(*given), False)


class ValuesTest(unittest.TestCase):
    def test_which_values_show_that_some_are_lacking(self):
        chance = random.Random(144)
        rights = {}
        for _ in range(80):
            given = drawn_joint(chance)
            for value in texts(given[2].letters, 3):
                right = is_lacking(*given, value)
                self.assertIs(Lacks(value).shows(*given), right, (given, value))
                rights[given[1], right] = rights.get((given[1], right), 0) + 1
        self.assertEqual(len(rights), 4)

    def test_which_values_go_beyond(self):
        chance = random.Random(145)
        held = 0
        while held < 40:
            given = drawn_joint(chance, 4)
            answer = combine(*given)
            if isinstance(answer, Beyond):
                held += 1
                for value in texts(given[2].letters, 3):
                    self.assertIs(Beyond(answer.spots, value).shows(*given), is_more(*given, value))

    def test_long_values(self):
        looks = [(cut("ab", 5), ("begins", "ab")), (AB, ("begins", "ab"))]
        for way in WAYS:
            given = (looks, way, AB, ("like", "*a"))
            self.assertIs(Lacks("b" * 3000 + "a").shows(*given), True)
            self.assertIs(Lacks("ab" * 1500 + "a").shows(*given), False)
        given = ([(AB, ("begins", "a")), (SHORT, ("equal", "a"))], "all", AB, ("equal", "ab"))
        spots = combine(*given).spots
        self.assertIs(Beyond(spots, "a" * 3000).shows(*given), True)
        self.assertIs(Beyond(spots, "b" * 3000).shows(*given), False)

    def test_what_is_no_value(self):
        whole = ([(AB, ("begins", ""))], "all", AB, ("equal", "a"))
        spots = combine(*whole).spots
        self.assertIs(Beyond(spots, "b").shows(*whole), True)
        for wrong in NOT_VALUES:
            self.assertIs(Lacks(wrong).shows([(AB, ("equal", "a"))], "any", AB, ("begins", "")), False)
            self.assertIs(Beyond(spots, wrong).shows(*whole), False)

    def test_answers_that_are_right_though_another_one_is_due(self):
        # A value that is lacking is there wherever it says so, whether more is found, too, or not.
        given = ([(AB, ("begins", "a"))], "all", AB, ("begins", "b"))
        for value in ("b", "ba", "bbbb"):
            self.assertIs(Lacks(value).shows(*given), True)
        spots = list(spots_of(*given))
        self.assertIs(is_more(*given, "a"), True)
        self.assertIs(Beyond(spots, "a").shows(*given), False)
        # It needs no shortest value, and no list of just the spots that come about.
        given = ([(AB, ("begins", "a")), (AB, ("equal", ""))], "any", AB, ("equal", "ab"))
        spots = combine(*given).spots
        extra = slow.closure([(((0, 1), (0, -1)), 0, -1)], lambda old: sides.joint_behind(given[0], AB, given[3], old))
        self.assertIs(Beyond(extra + spots, "aaaa").shows(*given), True)
        self.assertIs(Fits(spots).shows(*given), False)
        self.assertIs(Beyond(spots, "ab").shows(*given), False)
        self.assertIs(Beyond(spots, "b").shows(*given), False)
        # Where a Fits is due, no value helps.
        given = ([(SHORT, ("equal", "a"))], "any", AB, ("begins", "a"))
        fit = combine(*given)
        for value in texts("ab", 3):
            self.assertIs(Lacks(value).shows(*given), False)
            self.assertIs(Beyond(fit.spots, value).shows(*given), False)


class LimitTest(unittest.TestCase):
    def test_400_spots(self):
        for given, kind in ((FITS_400, Fits), (BEYOND_400, Beyond), (LACKS_400, Lacks)):
            found = spots_of(*given)
            self.assertEqual(len(found), 400)
            answer = combine(*given)
            self.assertIs(answer.__class__, kind)
            self.assertIs(answer.shows(*given), True)
            self.assertEqual(shortest_apart(*given), least(given, list(found.values())))
            self.assertIs(fits(*given), kind is Fits)

    def test_401_spots(self):
        for given in (FITS_401, BEYOND_401, LACKS_401):
            self.assertEqual(len(spots_of(*given)), 401)
            for call in (combine, fits, shortest_apart):
                caught(TooLarge, call, *given)

    def test_what_has_no_limit(self):
        spots = list(spots_of(*FITS_401))
        self.assertIs(Fits(spots).shows(*FITS_401), True)
        self.assertIs(Fits(spots[:-1]).shows(*FITS_401), False)
        found = spots_of(*BEYOND_401)
        value = [value for value in found.values() if is_more(*BEYOND_401, value)][0]
        self.assertIs(Beyond(list(found), value).shows(*BEYOND_401), True)
        self.assertIs(Beyond(list(found)[1:], value).shows(*BEYOND_401), False)
        value = [value for value in texts("ab", 4) if is_lacking(*LACKS_401, value)][0]
        self.assertIs(Lacks(value).shows(*LACKS_401), True)


CALLS = [combine, fits, shortest_apart, Fits([]).shows, Beyond([], "").shows, Lacks("").shows]
LOOKS = [(AB, ("equal", "a"))]
GOOD = ("begins", "a")


class ErrorsTest(unittest.TestCase):
    def test_what_is_right(self):
        for call in CALLS:
            for way in WAYS:
                for many in (1, 2, 3):
                    call(LOOKS * many, way, AB, GOOD)
                    call(tuple(LOOKS * many), way, AB, GOOD)

    def test_what_is_not_a_machine(self):
        for call in CALLS:
            for wrong in NOT_MACHINES:
                self.assertIsNone(caught(BadMachine, call, LOOKS, "all", wrong, GOOD).row)
                self.assertIsNone(caught(BadMachine, call, None, None, wrong, None).row)

    def test_what_is_not_a_condition(self):
        for call in CALLS:
            for wrong in NOT_CONDITIONS:
                caught(BadCondition, call, LOOKS, "all", AB, wrong)
                caught(BadCondition, call, None, None, AB, wrong)

    def test_what_are_no_looks(self):
        for call in CALLS:
            for wrong in NOT_GROUPS + [LOOKS * 4, tuple(LOOKS * 4), [None] * 4]:
                self.assertIsNone(caught(BadLooks, call, wrong, "all", AB, GOOD).index)
                self.assertIsNone(caught(BadLooks, call, wrong, None, AB, GOOD).index)
            # A pair that stands alone is a tuple of two items that are no looks.
            self.assertEqual(caught(BadLooks, call, LOOKS[0], "all", AB, GOOD).index, 0)

    def test_an_item_that_is_no_look(self):
        wrongs = [(wrong, ("equal", "a")) for wrong in NOT_MACHINES] + [(AB, wrong) for wrong in NOT_CONDITIONS]
        wrongs += [(plain(letters), ("equal", "a")) for letters in ("ba", "abc", "aB")]
        wrongs += [None, AB, ("equal", "a"), (AB,), (AB, "equal", "a"), [AB, ("equal", "a")], (("equal", "a"), AB), ()]
        wrongs += [(AB, ("equal", "a"), "all")]
        for call in CALLS:
            for many in (1, 2, 3):
                for at in range(many):
                    for wrong in wrongs:
                        looks = LOOKS * at + [wrong] + LOOKS * (many - at - 1)
                        self.assertEqual(caught(BadLooks, call, looks, "all", AB, GOOD).index, at)
                        self.assertEqual(caught(BadLooks, call, tuple(looks), None, AB, GOOD).index, at)
            # The first one counts.
            self.assertEqual(caught(BadLooks, call, LOOKS + [None, None], "all", AB, GOOD).index, 1)
            self.assertEqual(caught(BadLooks, call, [(AB, None), None, None], "all", AB, GOOD).index, 0)

    def test_looks_have_the_letters_of_the_filter(self):
        other = plain("ba")
        for call in CALLS:
            self.assertEqual(caught(BadLooks, call, LOOKS * 2, "all", other, GOOD).index, 0)
            call([(other, ("equal", "a"))], "all", other, GOOD)

    def test_what_is_no_way(self):
        for call in CALLS:
            for wrong in NOT_WAYS:
                caught(BadWay, call, LOOKS, wrong, AB, GOOD)
                self.assertEqual(caught(BadLooks, call, [None], wrong, AB, GOOD).index, 0)
                self.assertIsNone(caught(BadLooks, call, [], wrong, AB, GOOD).index)
                caught(BadCondition, call, LOOKS, wrong, AB, None)
                caught(BadMachine, call, LOOKS, wrong, None, GOOD)

    def test_all_comes_ahead_of_what_is_too_large(self):
        looks, way, machine, condition = FITS_401
        for call in CALLS[:3]:
            for wrong in NOT_WAYS:
                caught(BadWay, call, looks, wrong, machine, condition)
            self.assertEqual(caught(BadLooks, call, looks[:2] + [None], way, machine, condition).index, 2)
            caught(BadCondition, call, looks, way, machine, ("equal", "c"))
            caught(BadMachine, call, looks, way, None, condition)


if __name__ == "__main__":
    unittest.main()
