"""Wrong arguments of looks, serving, orders and doubts, and which error comes first."""

import unittest

from foldlook import doubts, looks, orders, serving
from foldlook.errors import BadCondition, BadMachine, BadSize, BadValue, TooLarge, Unlike
from foldlook.machines import plain
from helper import NOT_CONDITIONS, NOT_MACHINES, NOT_VALUES, caught, ring
from large import CLOUDS_201, MIXED_401, SPOTS_401, TELLS_401

WHOLE = plain("ab")
GOOD = ("begins", "a")

# What is called with an index, a question, a machine and a condition.
LOOKS = [looks.judge, looks.shortest_unlike, looks.Exact([]).shows, looks.More([], "").shows, looks.Misses("").shows]
# What is called with an index, a machine and a condition, and perhaps with something more.
FILTERS = [
    serving.serve, serving.can_serve, serving.least_mixed, serving.Served([]).shows, serving.Mixed("", "").shows,
    doubts.doubts, doubts.are_endless, doubts.Endless("", "", "").shows, doubts.Bounded(None, None, {}).shows,
]
FILTERS_AND_MORE = [(doubts.is_doubtful, "a"), (doubts.count_doubtful, 1)]
# What is called with an index and a machine.
MACHINES = [
    serving.tell, serving.does_tell, serving.least_blurred, serving.Tells([]).shows, serving.Blurs("", "").shows,
    orders.order, orders.keeps_order, orders.Rises([]).shows, orders.Crosses("", "").shows,
]


def calls():
    """All of these, each as a function of an index and a machine, and of a condition that is also the question."""
    found = [lambda one, other, condition, call=call: call(one, condition, other, condition) for call in LOOKS]
    found += FILTERS
    found += [
        lambda one, other, condition, call=call, last=last: call(one, other, condition, last)
        for call, last in FILTERS_AND_MORE
    ]
    return found + [lambda one, other, condition, call=call: call(one, other) for call in MACHINES]


def with_conditions():
    return calls()[:-len(MACHINES)]


class MachinesTest(unittest.TestCase):
    def test_all_of_them_take_what_is_right(self):
        for call in calls():
            call(WHOLE, WHOLE, GOOD)

    def test_what_is_not_a_machine(self):
        for call in calls():
            for wrong in NOT_MACHINES:
                self.assertIsNone(caught(BadMachine, call, wrong, WHOLE, GOOD).row)
                self.assertIsNone(caught(BadMachine, call, WHOLE, wrong, GOOD).row)
                self.assertIsNone(caught(BadMachine, call, wrong, wrong, GOOD).row)

    def test_other_letters(self):
        for call in calls():
            for letters in ("ba", "abc", "aB", "cd"):
                caught(Unlike, call, WHOLE, plain(letters), GOOD)
                caught(Unlike, call, plain(letters), WHOLE, GOOD)

    def test_letters_come_ahead_of_conditions(self):
        for call in with_conditions():
            caught(Unlike, call, WHOLE, plain("ac"), ("equal", "d"))
            caught(Unlike, call, WHOLE, plain("ac"), None)

    def test_machines_come_ahead_of_all_else(self):
        for call in with_conditions():
            caught(BadMachine, call, WHOLE, None, None)
            caught(BadMachine, call, None, WHOLE, ("equal", "abababab"))
            caught(BadMachine, call, plain("ac"), "ab", None)


class ConditionsTest(unittest.TestCase):
    def test_what_is_not_a_condition(self):
        for call in with_conditions():
            for wrong in NOT_CONDITIONS:
                caught(BadCondition, call, WHOLE, WHOLE, wrong)

    def test_question_and_condition(self):
        for call in LOOKS:
            for wrong in NOT_CONDITIONS:
                caught(BadCondition, call, WHOLE, wrong, WHOLE, GOOD)
                caught(BadCondition, call, WHOLE, GOOD, WHOLE, wrong)

    def test_conditions_come_ahead_of_what_is_too_large(self):
        index, machine = ring(6, ""), ring(5, "")
        for call in FILTERS[:3]:
            caught(TooLarge, call, index, machine, ("equal", ""))
            caught(BadCondition, call, index, machine, ("equal", "c"))

    def test_letters_come_ahead_of_what_is_too_large(self):
        for call in MACHINES[:3] + MACHINES[5:7]:
            caught(TooLarge, call, *TELLS_401)
            caught(Unlike, call, TELLS_401[0], plain("ba"))
            caught(BadMachine, call, TELLS_401[0], None)


class LaterTest(unittest.TestCase):
    def test_keys(self):
        for wrong in NOT_VALUES:
            caught(BadValue, doubts.is_doubtful, WHOLE, WHOLE, GOOD, wrong)
            caught(BadCondition, doubts.is_doubtful, WHOLE, WHOLE, ("equal", "c"), wrong)
            caught(Unlike, doubts.is_doubtful, WHOLE, plain("ac"), GOOD, wrong)
            caught(BadMachine, doubts.is_doubtful, WHOLE, None, GOOD, wrong)
            caught(BadValue, doubts.is_doubtful, *CLOUDS_201, wrong)

    def test_sizes(self):
        for wrong in (-1, 61, True, None):
            caught(BadSize, doubts.count_doubtful, WHOLE, WHOLE, GOOD, wrong)
            caught(BadCondition, doubts.count_doubtful, WHOLE, WHOLE, ("equal", "c"), wrong)
            caught(Unlike, doubts.count_doubtful, WHOLE, plain("ac"), GOOD, wrong)
            caught(BadMachine, doubts.count_doubtful, None, WHOLE, GOOD, wrong)
            caught(BadSize, doubts.count_doubtful, *CLOUDS_201, wrong)

    def test_what_is_too_large_for_one_is_none_for_another(self):
        # shows has no such error, and neither has is_doubtful.
        for call in LOOKS[2:]:
            self.assertIn(call(*SPOTS_401), (True, False))
        for call in FILTERS[3:5] + FILTERS[7:]:
            self.assertIn(call(*MIXED_401), (True, False))
            self.assertIn(call(*CLOUDS_201), (True, False))
        for call in MACHINES[3:5] + MACHINES[7:]:
            self.assertIn(call(*TELLS_401), (True, False))
        self.assertIn(doubts.is_doubtful(*CLOUDS_201, "ab"), (True, False))


class FoundInTest(unittest.TestCase):
    def test_index(self):
        for wrong in NOT_MACHINES:
            self.assertIsNone(caught(BadMachine, looks.found_in, wrong, GOOD, ["a"]).row)
            caught(BadMachine, looks.found_in, wrong, None, None)

    def test_question(self):
        for wrong in NOT_CONDITIONS:
            caught(BadCondition, looks.found_in, WHOLE, wrong, ["a"])
            caught(BadCondition, looks.found_in, WHOLE, wrong, None)

    def test_values(self):
        for wrong in (None, 0, True, "", "ab", {}, {"a": 1}, {"a"}, object(), b"a", range(2), iter(["a"])):
            caught(BadValue, looks.found_in, WHOLE, GOOD, wrong)

    def test_an_item_that_is_no_value(self):
        for wrong in NOT_VALUES:
            for kind in (list, tuple):
                caught(BadValue, looks.found_in, WHOLE, GOOD, kind([wrong]))
                caught(BadValue, looks.found_in, WHOLE, GOOD, kind(["a", "b", wrong]))
                caught(BadValue, looks.found_in, WHOLE, GOOD, kind([wrong, "a"]))


if __name__ == "__main__":
    unittest.main()
