"""Conditions: what is one, when it is met, wrong arguments."""

import re
import unittest

from foldlook.conditions import KINDS, is_condition, meets, stand
from foldlook.errors import BadCondition, BadMachine, BadValue
from foldlook.machines import cut, mapped, plain, squeezed, stripped
from helper import NOT_MACHINES, NOT_TEXTS, caught, texts

CONDITIONS = [("equal", "ab"), ("begins", "ab"), ("between", "a", "ab"), ("like", "a*?")]


def places(letters, text):
    return [letters.find(sign) for sign in text]


def form(pattern):
    """A regular expression for the form of a pattern."""
    return pattern.replace("?", ".").replace("*", ".*")


def answer(letters, condition, text):
    """Whether a text meets a condition, from the words of [4] alone."""
    word, *given = condition
    if word == "equal":
        return text == given[0]
    if word == "begins":
        return text.startswith(given[0])
    if word == "like":
        return re.fullmatch(form(given[0]), text) is not None
    low, high = given
    return places(letters, low) <= places(letters, text) <= places(letters, high)


def all_conditions(letters, most):
    values = texts(letters, most)
    found = [(word, value) for word in ("equal", "begins") for value in values]
    found += [("between", low, high) for low in values for high in values]
    return found + [("like", pattern) for pattern in texts(letters + "?*", most)]


class IsConditionTest(unittest.TestCase):
    def setUp(self):
        self.whole = plain("ab")

    def yes(self, thing):
        self.assertIs(is_condition(self.whole, thing), True, thing)
        self.assertIn(meets(self.whole, thing, "ab"), (True, False))

    def no(self, thing):
        self.assertIs(is_condition(self.whole, thing), False, thing)
        caught(BadCondition, meets, self.whole, thing, "ab")
        caught(BadCondition, stand, self.whole, thing, "ab")

    def test_each_kind(self):
        for thing in CONDITIONS:
            self.yes(thing)

    def test_empty_texts(self):
        for thing in (("equal", ""), ("begins", ""), ("between", "", ""), ("like", "")):
            self.yes(thing)

    def test_four_letters_and_five(self):
        self.yes(("equal", "abab"))
        self.no(("equal", "ababa"))
        self.yes(("begins", "abab"))
        self.no(("begins", "ababa"))
        self.yes(("between", "bbbb", "aaaa"))
        self.no(("between", "bbbbb", "aaaa"))
        self.no(("between", "bbbb", "aaaaa"))
        self.no(("between", "aaaaa", "bbbbb"))

    def test_four_signs_and_five(self):
        for pattern in ("*?a*", "????", "****", "a?b*"):
            self.yes(("like", pattern))
            self.no(("like", pattern + "*"))
            self.no(("like", "?" + pattern))

    def test_other_words(self):
        for word in ("", "Equal", "EQUAL", "equals", "begin", "is", "Like", "like ", "equalbegins", "a", "*"):
            self.no((word, "a"))
            self.no((word, "a", "b"))
        for word in NOT_TEXTS:
            self.no((word, "a"))
            self.no((word, "a", "b"))

    def test_too_few_and_too_many_items(self):
        self.no(())
        for word in KINDS:
            self.no((word,))
            self.no((word, "a", "a", "a"))
        for word in ("equal", "begins", "like"):
            self.no((word, "a", "a"))
            self.no((word, "a", ""))
        self.no(("between", "a"))

    def test_what_is_not_a_tuple(self):
        for thing in CONDITIONS:
            self.no(list(thing))
        for thing in NOT_TEXTS + ["", "equal", "like", {"equal": "a"}, ["like", "a"], "li"]:
            self.no(thing)

    def test_what_is_not_a_text(self):
        for wrong in NOT_TEXTS:
            self.no(("equal", wrong))
            self.no(("begins", wrong))
            self.no(("like", wrong))
            self.no(("between", wrong, "a"))
            self.no(("between", "a", wrong))

    def test_letters_that_the_machine_does_not_have(self):
        for wrong in ("c", "A", "ac", "-", " ", "a\n", "_"):
            self.no(("equal", wrong))
            self.no(("begins", wrong))
            self.no(("between", wrong, "a"))
            self.no(("between", "a", wrong))
            self.no(("like", wrong))
            self.no(("like", "*" + wrong))
        self.assertTrue(is_condition(plain("ac"), ("equal", "ac")))
        # All letters of the machine count, also those that it never makes.
        self.assertTrue(is_condition(cut("ab", 0), ("equal", "ab")))

    def test_signs_of_patterns_stand_in_patterns_only(self):
        for sign in "?*":
            self.yes(("like", sign))
            self.no(("equal", sign))
            self.no(("begins", "a" + sign))
            self.no(("between", sign, "a"))
            self.no(("between", "a", sign))
        self.no(("like", "."))
        self.no(("like", "+"))

    def test_things_stay_as_they_are(self):
        thing, inner = ["equal", "a"], ["a"]
        self.no(thing)
        self.no(("equal", inner))
        self.assertEqual((thing, inner), (["equal", "a"], ["a"]))

    def test_what_is_not_a_machine(self):
        for wrong in NOT_MACHINES:
            for thing in (("equal", "a"), None, ("equal",)):
                self.assertIsNone(caught(BadMachine, is_condition, wrong, thing).row)


class MeetsTest(unittest.TestCase):
    def hold(self, letters, most, length):
        whole, values = plain(letters), texts(letters, length)
        for condition in all_conditions(letters, most):
            for value in values:
                self.assertIs(meets(whole, condition, value), answer(letters, condition, value), (condition, value))

    def test_all_conditions_of_two_signs_and_two_letters(self):
        self.hold("ab", 2, 5)

    def test_all_conditions_of_two_signs_and_letters_in_another_order(self):
        self.hold("b_A", 2, 3)

    def test_bounds_of_up_to_four_letters(self):
        whole, values = plain("ba"), texts("ba", 5)
        bounds = ["", "b", "a", "ba", "bba", "abb", "bbbb", "baab", "aaaa"]
        for low in bounds:
            for high in bounds:
                for value in values:
                    condition = ("between", low, high)
                    self.assertIs(meets(whole, condition, value), answer("ba", condition, value), (condition, value))

    def test_all_patterns_of_up_to_four_signs(self):
        whole, values = plain("ab"), texts("ab", 5)
        for pattern in texts("ab?*", 4):
            condition = ("like", pattern)
            for value in values:
                self.assertIs(meets(whole, condition, value), answer("ab", condition, value), (condition, value))

    def test_four_letters(self):
        whole = plain("aAbB")
        for condition in (("equal", "aAbB"), ("begins", "aAbB"), ("between", "aAbB", "aAbB"), ("like", "aAbB")):
            self.assertTrue(meets(whole, condition, "aAbB"))
            self.assertFalse(meets(whole, condition, "aAb"))
            self.assertFalse(meets(whole, condition, "aAba"))
            self.assertIs(meets(whole, condition, "aAbBa"), condition[0] == "begins")

    def test_empty_texts(self):
        whole = plain("ab")
        for value in texts("ab", 3):
            self.assertIs(meets(whole, ("equal", ""), value), value == "")
            self.assertIs(meets(whole, ("begins", ""), value), True)
            self.assertIs(meets(whole, ("between", "", ""), value), value == "")
            self.assertIs(meets(whole, ("between", "", "b"), value), not value.startswith("b") or value == "b")
            self.assertIs(meets(whole, ("between", "a", ""), value), False)
            self.assertIs(meets(whole, ("like", ""), value), value == "")

    def test_bounds_are_met_themselves(self):
        whole = plain("ab")
        for bound in texts("ab", 4):
            self.assertTrue(meets(whole, ("between", bound, bound), bound))
            self.assertFalse(meets(whole, ("between", bound, bound), bound + "a"))
            self.assertTrue(meets(whole, ("between", bound, "bbbb"), bound))
            self.assertTrue(meets(whole, ("between", "", bound), bound))

    def test_p_behind_q(self):
        whole = plain("ab")
        for low, high in (("b", "a"), ("ab", "a"), ("a", ""), ("bbbb", "bbba")):
            for value in texts("ab", 5):
                self.assertFalse(meets(whole, ("between", low, high), value))

    def test_several_stars_beside_one_another(self):
        whole = plain("ab")
        for pattern in ("*", "**", "***", "****"):
            for value in texts("ab", 4):
                self.assertTrue(meets(whole, ("like", pattern), value))
        for pattern in ("a**b", "**ab", "a***"):
            self.assertTrue(meets(whole, ("like", pattern), "ab"))
            self.assertFalse(meets(whole, ("like", pattern), "ba"))
        self.assertTrue(meets(whole, ("like", "a**b"), "ababab"))

    def test_long_texts(self):
        whole = plain("ab")
        long = "ab" * 3000
        self.assertTrue(meets(whole, ("begins", "abab"), long))
        self.assertTrue(meets(whole, ("like", "*bab"), long))
        self.assertFalse(meets(whole, ("like", "*baa"), long))
        self.assertTrue(meets(whole, ("between", "abab", "b"), long))
        self.assertFalse(meets(whole, ("equal", "abab"), long))

    def test_it_is_asked_of_what_the_machine_makes(self):
        machines = [mapped("_ab", ("", "b", "a")), cut("_ab", 2), stripped("_ab", "_"), squeezed("_ab", "_a")]
        for machine in machines:
            for condition in CONDITIONS + [("equal", ""), ("begins", "_"), ("like", "_?"), ("between", "_", "aa")]:
                for value in texts("_ab", 4):
                    right = answer("_ab", condition, machine.made(value))
                    self.assertIs(meets(machine, condition, value), right, (condition, value))


class ErrorsTest(unittest.TestCase):
    def test_what_is_not_a_machine_is_first(self):
        for call in (meets, stand):
            for wrong in NOT_MACHINES:
                self.assertIsNone(caught(BadMachine, call, wrong, ("equal", "a"), "a").row)
                self.assertIsNone(caught(BadMachine, call, wrong, ("equal",), "a").row)
                self.assertIsNone(caught(BadMachine, call, wrong, ("equal", "a"), 1).row)
                self.assertIsNone(caught(BadMachine, call, wrong, None, None).row)

    def test_a_condition_is_checked_ahead_of_a_value(self):
        for call in (meets, stand):
            for value in NOT_TEXTS + ["c", "ab"]:
                caught(BadCondition, call, plain("ab"), ["equal", "a"], value)
                caught(BadCondition, call, plain("ab"), ("equal", "c"), value)

    def test_what_is_not_a_value(self):
        for call in (meets, stand):
            for condition in CONDITIONS:
                for value in NOT_TEXTS + ["c", "abA", "a?"]:
                    caught(BadValue, call, plain("ab"), condition, value)
                    caught(BadValue, call, cut("ab", 0), condition, value)


if __name__ == "__main__":
    unittest.main()
