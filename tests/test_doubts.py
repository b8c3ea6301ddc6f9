"""Second looks ([9]): clouds, doubtful keys, how many there are."""

import random
import unittest
from itertools import product

import slow
from foldlook.doubts import Bounded, Endless, are_endless, count_doubtful, doubts, is_doubtful
from foldlook.errors import BadSize, TooLarge
from foldlook.machines import Machine, cut, mapped, plain, squeezed, stripped
from helper import NOT_VALUES, caught, drawn_condition, drawn_machine, drawn_pair, ready_machines, texts
from large import CLOUDS_200, CLOUDS_201, NONE_200, NONE_201, SIX_201

SMALL, WHOLE = mapped("Aa", ("a", "a")), plain("Aa")


def next_clouds(case, cloud):
    """The clouds behind a cloud and each letter that are not empty."""
    found = [slow.cloud_behind(*case, cloud, letter) for letter in case[0].letters]
    return [there for there in found if there]


def all_clouds(case):
    """The clouds that come about and are not empty, that of the empty key first."""
    first = slow.cloud_of(*case, "")
    return slow.closure([first], lambda cloud: next_clouds(case, cloud))


def lengths(case, clouds):
    """Those numbers of letters up to twice the number of clouds that some doubtful keys have."""
    found = []
    here = {clouds[0]}
    behind = {cloud: next_clouds(case, cloud) for cloud in clouds}
    for many in range(2 * len(clouds)):
        if any(slow.is_doubtful(case[2], cloud) for cloud in here):
            found.append(many)
        here = {there for cloud in here for there in behind[cloud]}
    return found


def is_endless_right(case, head, loop, tail):
    """Whether three keys are those of an Endless, from the words of [9] alone."""
    if loop == "" or slow.cloud_of(*case, head) != slow.cloud_of(*case, head + loop):
        return False
    return slow.is_doubtful(case[2], slow.cloud_of(*case, head + tail))


def are_bounds(case, longest, bounds):
    """Whether a dict from clouds to integers is one of a Bounded, from the words of [9] alone."""
    if bounds.get(slow.cloud_of(*case, "")) != (-1 if longest is None else longest):
        return False
    for cloud, number in bounds.items():
        if number < -1 or slow.is_doubtful(case[2], cloud) and number < 0:
            return False
        for there in next_clouds(case, cloud):
            if there not in bounds or bounds[there] != -1 and bounds[there] >= number:
                return False
    return True


def is_pair_right(case, longest, mixed):
    """Whether a pair of values is one of a Bounded."""
    return slow.is_mixed(*case, *mixed) and len(case[0].made(mixed[0])) == longest


def natural(case, cloud, known, way=()):
    """The most letters that lead from a cloud to a doubtful one, -1 if none do; None if endlessly many do."""
    if cloud not in known:
        if cloud in way:
            # Clouds that lead back to themselves have no number but -1.
            return -1 if not any(
                slow.is_doubtful(case[2], there)
                for there in slow.closure([cloud], lambda old: next_clouds(case, old))
            ) else None
        numbers = [natural(case, there, known, way + (cloud,)) for there in next_clouds(case, cloud)]
        if None in numbers:
            return None
        most = max(numbers, default=-1)
        known[cloud] = most + 1 if most >= 0 else 0 if slow.is_doubtful(case[2], cloud) else -1
    return known[cloud]


def drawn_case(chance, most=3):
    index, machine = drawn_pair(chance, most)
    if chance.randrange(2):
        # What ready machines make seldom tells values apart.
        index, machine = chance.choice(ready_machines(index.letters)), plain(index.letters)
    return index, machine, drawn_condition(chance, index.letters, 3)


def drawn_cases(seed, many, wanted):
    """Cases of few clouds for which an answer of some kind is due, with the answer."""
    chance = random.Random(seed)
    cases = []
    while len(cases) < many:
        case = drawn_case(chance)
        if len(few_clouds(case)) < 30:
            answer = doubts(*case)
            if wanted(answer):
                cases.append((case, answer))
    return cases


def few_clouds(case):
    """The clouds that come about, or 30 of them."""
    found = [slow.cloud_of(*case, "")]
    for cloud in found:
        found.extend(there for there in dict.fromkeys(next_clouds(case, cloud)) if there not in found)
        if len(found) >= 30:
            return found
    return found


class DoubtsTest(unittest.TestCase):
    def test_each_answer(self):
        self.assertIs(doubts(SMALL, WHOLE, ("begins", "A")).__class__, Endless)
        found = doubts(SMALL, WHOLE, ("equal", "Aa"))
        self.assertEqual((found.__class__, found.longest), (Bounded, 2))
        found = doubts(WHOLE, SMALL, ("equal", "aa"))
        self.assertEqual((found.__class__, found.longest, found.mixed), (Bounded, None, None))
        found = doubts(cut("Aa", 0), WHOLE, ("equal", "A"))
        self.assertEqual((found.longest, found.bounds.__class__), (0, dict))
        self.assertIs(found.mixed.__class__, tuple)
        strip = stripped("_a", "_")
        self.assertEqual(doubts(strip, plain("_a"), ("equal", "")).longest, 0)
        self.assertEqual(doubts(strip, plain("_a"), ("equal", "_aa_")).longest, 3)
        self.assertIs(doubts(strip, plain("_a"), ("like", "_*")).__class__, Endless)
        self.assertEqual(doubts(squeezed("_a", "_"), plain("_a"), ("equal", "_a__")).longest, 3)
        self.assertEqual(doubts(cut("Aa", 3), WHOLE, ("like", "????")).longest, 3)

    def test_keys_of_no_value_are_not_doubtful(self):
        # No key has the letter A.
        bounds = doubts(SMALL, WHOLE, ("equal", "Aa")).bounds
        self.assertNotIn((), bounds)
        self.assertIs(is_doubtful(SMALL, WHOLE, ("equal", "Aa"), "Aa"), False)
        self.assertIs(is_doubtful(SMALL, WHOLE, ("equal", "Aa"), "aa"), True)
        self.assertIs(is_doubtful(cut("Aa", 1), WHOLE, ("begins", "Aa"), "AA"), False)
        self.assertEqual(count_doubtful(SMALL, WHOLE, ("begins", "A"), 5), 1)

    def test_against_a_walk_of_clouds(self):
        chance = random.Random(9)
        seen = {"endless": 0, "none": 0, "bounded": 0}
        longest = []
        while len(longest) < 500:
            case = drawn_case(chance)
            if len(few_clouds(case)) >= 30:
                continue
            clouds = all_clouds(case)
            numbers = lengths(case, clouds)
            answer = doubts(*case)
            longest.append(max(numbers, default=-1))
            # A key with as many letters as there are clouds goes through one of them twice.
            endless = longest[-1] >= len(clouds)
            self.assertIs(isinstance(answer, Endless), endless)
            self.assertIs(are_endless(*case), endless)
            self.assertIs(answer.shows(*case), True)
            if endless:
                seen["endless"] += 1
                self.assertTrue(is_endless_right(case, answer.head, answer.loop, answer.tail))
            else:
                seen["bounded" if numbers else "none"] += 1
                self.assertEqual(answer.longest, max(numbers, default=None))
                self.assertTrue(are_bounds(case, answer.longest, answer.bounds))
                self.assertIs(answer.mixed is None, answer.longest is None)
                self.assertTrue(answer.mixed is None or is_pair_right(case, answer.longest, answer.mixed))
        self.assertTrue(all(many > 40 for many in seen.values()), seen)
        self.assertGreater(len({many for many in longest if many < 5}), 4)

    def test_clouds_by_values(self):
        chance = random.Random(91)
        for _ in range(25):
            case = drawn_case(chance, 2)
            for key in texts(case[0].letters, 3):
                cloud = slow.cloud_of(*case, key)
                self.assertIs(is_doubtful(*case, key), slow.is_doubtful(case[2], cloud))

    def test_doubtful_by_all_values_up_to_some_length(self):
        chance = random.Random(92)
        values = texts("ab", 6)
        for _ in range(60):
            case = drawn_machine(chance, "ab", 2, 2), drawn_machine(chance, "ab", 2, 2)
            case += (drawn_condition(chance, "ab", 2),)
            for key in texts("ab", 2):
                met = {slow.meets(case[1], case[2], value) for value in values if case[0].made(value) == key}
                if len(met) == 2:
                    self.assertIs(is_doubtful(*case, key), True)
                elif not met:
                    self.assertIs(is_doubtful(*case, key), False)

    def test_a_long_key(self):
        self.assertIs(is_doubtful(SMALL, WHOLE, ("begins", "A"), "a" * 3000), True)
        self.assertIs(is_doubtful(SMALL, WHOLE, ("begins", "A"), "a" * 3000 + "A"), False)
        self.assertIs(is_doubtful(SMALL, WHOLE, ("equal", "A"), "a" * 3000), False)

    def test_each_answer_is_new(self):
        for condition in (("equal", "Aa"), ("begins", "A")):
            one, other = doubts(SMALL, WHOLE, condition), doubts(SMALL, WHOLE, condition)
            self.assertEqual(one, other)
            self.assertIsNot(one, other)
        one, other = doubts(SMALL, WHOLE, ("equal", "Aa")), doubts(SMALL, WHOLE, ("equal", "Aa"))
        one.bounds.clear()
        self.assertNotEqual(one, other)
        self.assertIs(doubts(SMALL, WHOLE, ("equal", "Aa")).shows(SMALL, WHOLE, ("equal", "Aa")), True)
        self.assertIs(one.shows(SMALL, WHOLE, ("equal", "Aa")), False)


class EndlessTest(unittest.TestCase):
    def setUp(self):
        self.cases = drawn_cases(93, 30, lambda answer: isinstance(answer, Endless))

    def hold(self, case, keys, right):
        self.assertIs(Endless(*keys).shows(*case), right, (case, keys))

    def test_one_of_them_changed(self):
        seen = set()
        for case, answer in self.cases:
            keys = (answer.head, answer.loop, answer.tail)
            for at, key in product(range(3), texts(case[0].letters, 2)):
                changed = keys[:at] + (key,) + keys[at + 1:]
                right = is_endless_right(case, *changed)
                self.hold(case, changed, right)
                seen.add((at, right))
        self.assertEqual(len(seen), 6)

    def test_an_empty_loop(self):
        for case, answer in self.cases:
            self.hold(case, (answer.head, "", answer.tail), False)

    def test_a_loop_twice(self):
        for case, answer in self.cases:
            self.hold(case, (answer.head, answer.loop * 2, answer.tail), True)
            self.hold(case, (answer.head + answer.loop, answer.loop, answer.tail), True)
            self.hold(case, (answer.head, answer.loop, answer.loop + answer.tail), True)

    def test_all_short_keys(self):
        for case in ((SMALL, WHOLE, ("begins", "A")), (stripped("Aa", "A"), WHOLE, ("begins", "Aa"))):
            for keys in product(texts("Aa", 2), repeat=3):
                self.hold(case, keys, is_endless_right(case, *keys))

    def test_where_a_bounded_is_due(self):
        case = (SMALL, WHOLE, ("equal", "Aa"))
        for keys in product(texts("Aa", 3), texts("a", 3), texts("Aa", 3)):
            self.hold(case, keys, False)
        # The clouds are the same, but nothing is doubtful.
        self.hold((WHOLE, WHOLE, ("begins", "A")), ("a", "a", "A"), False)

    def test_what_is_no_value(self):
        case = (SMALL, WHOLE, ("begins", "A"))
        self.hold(case, ("a", "a", "a"), True)
        for wrong in NOT_VALUES:
            if wrong != "A":
                self.hold(case, (wrong, "a", "a"), False)
                self.hold(case, ("a", wrong, "a"), False)
                self.hold(case, ("a", "a", wrong), False)
                self.hold(case, (wrong, wrong, wrong), False)


class BoundedTest(unittest.TestCase):
    def setUp(self):
        self.some = drawn_cases(94, 25, lambda answer: isinstance(answer, Bounded) and answer.longest is not None)
        self.none = drawn_cases(95, 10, lambda answer: isinstance(answer, Bounded) and answer.longest is None)

    def hold(self, case, longest, mixed, bounds, right):
        self.assertIs(Bounded(longest, mixed, bounds).shows(*case), right, (case, longest, mixed, bounds))

    def test_larger_numbers(self):
        # Each number but the first one may be as large as those of the clouds ahead allow.
        case = (cut("ab", 2), plain("ab"), ("equal", "abba"))
        answer = doubts(*case)
        self.assertEqual(answer.longest, 2)
        raised = dict(answer.bounds)
        ends = [cloud for cloud in raised if raised[cloud] == -1]
        self.assertNotEqual(ends, [])
        once = slow.cloud_of(*case, "b")
        self.assertEqual(raised[once], -1)
        raised[once] = 1
        self.hold(case, 2, answer.mixed, raised, True)
        raised[once] = 2
        self.hold(case, 2, answer.mixed, raised, False)

    def test_numbers_changed(self):
        seen = set()
        for case, answer in self.some + self.none:
            first = slow.cloud_of(*case, "")
            for cloud, number in answer.bounds.items():
                for other in {number - 2, number - 1, number + 1, number + 2, -1, 0, -2} - {number}:
                    bounds = {**answer.bounds, cloud: other}
                    right = are_bounds(case, answer.longest, bounds)
                    self.hold(case, answer.longest, answer.mixed, bounds, right)
                    seen.add((right, cloud == first, other > number))
        self.assertLessEqual({(True, False, True), (False, False, True), (False, False, False)}, seen)
        self.assertNotIn((True, True, True), seen)

    def test_a_cloud_left_out(self):
        for case, answer in self.some + self.none:
            for cloud in answer.bounds:
                bounds = {key: number for key, number in answer.bounds.items() if key != cloud}
                self.hold(case, answer.longest, answer.mixed, bounds, False)
            self.hold(case, answer.longest, answer.mixed, {}, False)

    def test_a_doubtful_cloud_with_minus_1(self):
        held = 0
        for case, answer in self.some:
            for cloud, number in answer.bounds.items():
                if slow.is_doubtful(case[2], cloud) and number == 0:
                    held += 1
                    bounds = {**answer.bounds, cloud: -1}
                    self.hold(case, answer.longest, answer.mixed, bounds, False)
        self.assertGreater(held, 20)

    def test_clouds_that_do_not_come_about(self):
        chance = random.Random(96)
        seen = {True: 0, False: 0}
        for case, answer in self.some + self.none:
            for _ in range(10):
                extra = drawn_cloud(chance, case)
                more = slow.closure([extra], lambda cloud: next_clouds(case, cloud))
                known = dict(answer.bounds)
                for numbers in (
                    {cloud: natural(case, cloud, known) for cloud in more},
                    {extra: natural(case, extra, known)},
                    {cloud: chance.randint(-1, 6) for cloud in more},
                    {cloud: -1 for cloud in more},
                ):
                    if None not in numbers.values():
                        bounds = {**numbers, **answer.bounds}
                        right = are_bounds(case, answer.longest, bounds)
                        self.hold(case, answer.longest, answer.mixed, bounds, right)
                        seen[right] += not set(numbers) <= set(answer.bounds)
        self.assertTrue(min(seen.values()) > 30, seen)

    def test_the_empty_cloud(self):
        for case, answer in self.some + self.none:
            for number in (-1, 0, 5):
                bounds = {**answer.bounds, (): number}
                self.hold(case, answer.longest, answer.mixed, bounds, True)
            self.hold(case, answer.longest, answer.mixed, {**answer.bounds, (): -2}, False)

    def test_what_is_no_tuple_of_legs(self):
        for case, answer in (self.some + self.none)[::3]:
            for cloud, number in answer.bounds.items():
                rest = {key: many for key, many in answer.bounds.items() if key != cloud}
                for wrong in wrong_clouds(case, cloud):
                    self.hold(case, answer.longest, answer.mixed, {**answer.bounds, wrong: number}, False)
                    self.hold(case, answer.longest, answer.mixed, {**rest, wrong: number}, False)

    def test_true_is_no_state_and_no_number(self):
        double = Machine("ab", (((1, "a"), (1, "b")), ((1, "a"), (1, "b"))))
        case = (double, double, ("begins", "a"))
        answer = doubts(*case)
        self.assertIn(((1, 1, 1),), answer.bounds)
        for at in range(3):
            leg = (1,) * at + (True,) + (1,) * (2 - at)
            rest = {cloud: many for cloud, many in answer.bounds.items() if cloud != ((1, 1, 1),)}
            self.hold(case, None, None, {**rest, ((1, 1, 1),): -1}, True)
            self.hold(case, None, None, {**rest, (leg,): -1}, False)
        # The same with numbers that are equal to True and False.
        case = (cut("ab", 1), plain("ab"), ("equal", "ab"))
        answer = doubts(*case)
        self.assertEqual(answer.longest, 1)
        for cloud, number in answer.bounds.items():
            if number in (0, 1):
                bounds = {**answer.bounds, cloud: bool(number)}
                self.hold(case, 1, answer.mixed, bounds, False)
        self.hold(case, True, answer.mixed, answer.bounds, False)
        case = (cut("ab", 0), plain("ab"), ("equal", "ab"))
        answer = doubts(*case)
        self.hold(case, 0, answer.mixed, answer.bounds, True)
        self.hold(case, False, answer.mixed, answer.bounds, False)

    def test_what_is_no_number(self):
        for case, answer in self.some[:8] + self.none[:4]:
            for cloud in answer.bounds:
                for wrong in (None, "0", "", (), (0,), True, False, [], -2, -3):
                    bounds = {**answer.bounds, cloud: wrong}
                    self.hold(case, answer.longest, answer.mixed, bounds, False)

    def test_longest_changed(self):
        for case, answer in self.some:
            first = slow.cloud_of(*case, "")
            for other in (None, answer.longest + 1, answer.longest - 1, -1, -2):
                for number in (answer.longest, -1 if other is None else other):
                    bounds = {**answer.bounds, first: number}
                    self.hold(case, other, answer.mixed, bounds, False)
                    if other != answer.longest:
                        self.hold(case, other, None, bounds, False)
            self.hold(case, answer.longest, None, answer.bounds, False)
        for case, answer in self.none:
            first = slow.cloud_of(*case, "")
            for other in (0, 1, -1):
                for mixed in (None, ("", ""), (case[0].letters[0], "")):
                    self.hold(case, other, mixed, answer.bounds, False)
                    self.hold(case, other, mixed, {**answer.bounds, first: other}, False)
            self.hold(case, None, ("", ""), answer.bounds, False)

    def test_larger_longest_with_all_numbers_larger(self):
        # The bounds fit, but no doubtful key has so many letters.
        for case, answer in self.some:
            bounds = {cloud: number + 1 for cloud, number in answer.bounds.items()}
            self.assertTrue(are_bounds(case, answer.longest + 1, bounds) or -1 in answer.bounds.values())
            self.hold(case, answer.longest + 1, answer.mixed, bounds, False)

    def test_mixed_changed(self):
        seen = set()
        for case, answer in self.some:
            one, other = answer.mixed
            self.hold(case, answer.longest, (other, one), answer.bounds, False)
            self.hold(case, answer.longest, (one, one), answer.bounds, False)
            self.hold(case, answer.longest, (other, other), answer.bounds, False)
            for mixed in product(texts(case[0].letters, 2), repeat=2):
                right = is_pair_right(case, answer.longest, mixed)
                self.hold(case, answer.longest, mixed, answer.bounds, right)
                seen.add((right, slow.is_mixed(*case, *mixed)))
        self.assertEqual(seen, {(True, True), (False, True), (False, False)})

    def test_mixed_is_no_pair_of_values(self):
        case = (SMALL, WHOLE, ("equal", "Aa"))
        answer = doubts(*case)
        self.hold(case, 2, ("Aa", "aA"), answer.bounds, True)
        for wrong in NOT_VALUES:
            if wrong != "A":
                self.hold(case, 2, ("Aa", wrong), answer.bounds, False)
                self.hold(case, 2, (wrong, "aa"), answer.bounds, False)
                self.hold(case, 2, (wrong, wrong), answer.bounds, False)
        for wrong in ((), ("Aa",), ("Aa", "aa", "aa"), ["Aa", "aa"], "Aa", (("Aa", "aa"),)):
            self.hold(case, 2, wrong, answer.bounds, False)

    def test_bounds_where_doubtful_keys_are_endlessly_many(self):
        case = (SMALL, WHOLE, ("begins", "A"))
        clouds = all_clouds(case)
        for number in (-1, 0, 1, 5):
            bounds = {cloud: number for cloud in clouds}
            bounds[clouds[0]] = 1
            self.hold(case, 1, ("A", "a"), bounds, False)


def drawn_cloud(chance, case):
    legs = []
    for _ in range(chance.randint(1, 2)):
        leg = (chance.randrange(len(case[0])), chance.randrange(len(case[1])))
        legs.append(leg + (chance.choice(slow.all_stands(case[2])),))
    return tuple(sorted(set(legs)))


def wrong_clouds(case, cloud):
    """What is near to a cloud, but none."""
    leg = cloud[0]
    wrong = [cloud + cloud[-1:], cloud[:1] + cloud, leg, (cloud,), (leg[:2],), (leg + (0,),)]
    wrong += [((),), (None,), ("ab",), (0,)]
    if len(cloud) > 1:
        wrong += [cloud[::-1], cloud[1:] + cloud[:1]]
    for bad in (-1, len(case[0]), None, "0", (0,)):
        wrong.append(((bad,) + leg[1:],))
    for bad in (-1, len(case[1]), None, "0", (0,)):
        wrong.append((leg[:1] + (bad,) + leg[2:],))
    for bad in (None, "", 9, -3, (9,), (9, 9), (-3, 0), (0, 0, 0), (leg[2],)):
        wrong.append((leg[:2] + (bad,),))
    return wrong


class CountTest(unittest.TestCase):
    def test_against_all_keys(self):
        cases = drawn_cases(97, 40, lambda answer: isinstance(answer, Endless))
        cases += drawn_cases(98, 20, lambda answer: isinstance(answer, Bounded))
        held = 0
        for case, _ in cases:
            for size in range(4):
                keys = ["".join(group) for group in product(case[0].letters, repeat=size)]
                right = sum(slow.is_doubtful(case[2], slow.cloud_of(*case, key)) for key in keys)
                held += right > 1
                self.assertEqual(count_doubtful(*case, size), right)
        self.assertGreater(held, 20)

    def test_sizes(self):
        case = (stripped("_a", "_"), plain("_a"), ("begins", "_"))
        # All keys that begin with a, and the empty one, are also those of values that begin with _.
        self.assertEqual([count_doubtful(*case, size) for size in range(5)], [1, 1, 2, 4, 8])
        self.assertEqual(count_doubtful(*case, 60), 2 ** 59)
        self.assertEqual(count_doubtful(SMALL, WHOLE, ("begins", "A"), 60), 1)
        self.assertEqual(count_doubtful(SMALL, WHOLE, ("begins", "A"), 0), 0)
        self.assertEqual(count_doubtful(WHOLE, SMALL, ("equal", "a"), 60), 0)
        four = plain("abcd")
        pairs = mapped("abcd", ("a", "a", "c", "c"))
        self.assertEqual(count_doubtful(pairs, four, ("like", "b*"), 60), 2 ** 59)
        self.assertEqual([count_doubtful(cut("Aa", 1), WHOLE, ("equal", "Aa"), size) for size in range(3)], [0, 1, 0])

    def test_other_sizes(self):
        for wrong in (-1, 61, 62, -60, 1000, True, False, None, "1", "", [], (1,), {}):
            caught(BadSize, count_doubtful, SMALL, WHOLE, ("begins", "A"), wrong)


class LimitTest(unittest.TestCase):
    def test_200_clouds(self):
        for case, kind in ((CLOUDS_200, Endless), (NONE_200, Bounded)):
            self.assertEqual(len(all_clouds(case)), 200)
            answer = doubts(*case)
            self.assertIs(answer.__class__, kind)
            self.assertIs(answer.shows(*case), True)
            self.assertIs(are_endless(*case), kind is Endless)
            self.assertGreaterEqual(count_doubtful(*case, 60), 0)

    def test_the_empty_cloud_does_not_count(self):
        behind = [slow.cloud_behind(*CLOUDS_200, cloud, letter) for cloud in all_clouds(CLOUDS_200) for letter in "ab"]
        self.assertIn((), behind)
        self.assertIs(are_endless(*CLOUDS_200), True)

    def test_201_clouds(self):
        for case in (CLOUDS_201, NONE_201, SIX_201):
            self.assertEqual(len(all_clouds(case)), 201)
            caught(TooLarge, doubts, *case)
            caught(TooLarge, are_endless, *case)
            for size in (0, 1, 60):
                caught(TooLarge, count_doubtful, *case, size)
            for size in (-1, 61, True):
                caught(BadSize, count_doubtful, *case, size)

    def test_a_key_and_shows_have_no_limit(self):
        for case in (CLOUDS_201, SIX_201):
            for key in texts("ab", 3):
                self.assertIs(is_doubtful(*case, key), slow.is_doubtful(case[2], slow.cloud_of(*case, key)))
        clouds = all_clouds(NONE_201)
        self.assertIs(Bounded(None, None, {cloud: -1 for cloud in clouds}).shows(*NONE_201), True)
        self.assertIs(Bounded(None, None, {cloud: -1 for cloud in clouds[:-1]}).shows(*NONE_201), False)
        self.assertIs(Endless("", "a", "a").shows(*CLOUDS_201), is_endless_right(CLOUDS_201, "", "a", "a"))


if __name__ == "__main__":
    unittest.main()
