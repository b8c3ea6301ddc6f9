"""Letters and values, seen through what takes them."""

import unittest

from foldlook.errors import BadLetters, BadValue
from foldlook.machines import Machine, compare, cut, mapped, plain, squeezed, stripped
from helper import NOT_LETTERS, NOT_TEXTS, caught, texts


class LettersTest(unittest.TestCase):
    def test_two_to_four_different_signs(self):
        for letters in ("ab", "ba", "AZ", "az", "_a", "a_", "Z_z", "aAbB", "_zZA", "dcba"):
            self.assertEqual(plain(letters).letters, letters)
            self.assertEqual(compare(letters, letters[0], letters[1]), -1)

    def test_each_sign_may_be_a_letter(self):
        upper = "ABCDEFGHIJKLMNOPQRSTUVWXYZ"
        for sign in upper + upper.lower():
            self.assertEqual(plain("_" + sign).made(sign + "_"), sign + "_")

    def test_no_other_sign_is_a_letter(self):
        allowed = "ABCDEFGHIJKLMNOPQRSTUVWXYZ_abcdefghijklmnopqrstuvwxyz"
        for number in range(600):
            if chr(number) not in allowed:
                caught(BadLetters, plain, "x" + chr(number))

    def test_what_is_not_letters(self):
        for wrong in NOT_LETTERS:
            caught(BadLetters, plain, wrong)
            caught(BadLetters, Machine, wrong, (((0, "a"), (0, "b")),))
            caught(BadLetters, mapped, wrong, ("a", "b"))
            caught(BadLetters, cut, wrong, 1)
            caught(BadLetters, stripped, wrong, "a")
            caught(BadLetters, squeezed, wrong, "a")
            caught(BadLetters, compare, wrong, "a", "b")

    def test_wrong_lists_stay_as_they_are(self):
        letters, value = ["a", "b"], ["a"]
        caught(BadLetters, plain, letters)
        caught(BadValue, plain("ab").made, value)
        self.assertEqual((letters, value), (["a", "b"], ["a"]))


class ValuesTest(unittest.TestCase):
    def test_what_is_not_a_value(self):
        whole = plain("ab")
        for wrong in NOT_TEXTS + ["c", "abc", "A", "a b", "a\n", "?", "*", "-"]:
            caught(BadValue, whole.made, wrong)
            caught(BadValue, whole.state_after, wrong)
            caught(BadValue, stripped, "ab", wrong)
            caught(BadValue, squeezed, "ab", wrong)
            caught(BadValue, compare, "ab", wrong, "a")
            caught(BadValue, compare, "ab", "a", wrong)
            caught(BadValue, compare, "ab", wrong, wrong)

    def test_values_may_be_empty_and_long(self):
        whole = plain("ab")
        self.assertEqual(whole.made(""), "")
        self.assertEqual(whole.made("ab" * 5000), "ab" * 5000)


class CompareTest(unittest.TestCase):
    def test_order_of_letters_is_that_in_the_text(self):
        self.assertEqual(compare("ba", "b", "a"), -1)
        self.assertEqual(compare("ab", "b", "a"), 1)
        self.assertEqual(compare("aAbB", "A", "b"), -1)
        self.assertEqual(compare("b_A", "A", "_"), 1)

    def test_first_letters_that_differ_decide(self):
        self.assertEqual(compare("ab", "abbb", "b"), -1)
        self.assertEqual(compare("ab", "aba", "aab"), 1)

    def test_value_comes_ahead_of_longer_ones_that_begin_with_it(self):
        self.assertEqual(compare("ab", "ab", "aba"), -1)
        self.assertEqual(compare("ab", "aba", "ab"), 1)
        self.assertEqual(compare("ba", "b", "bb"), -1)

    def test_empty_value(self):
        self.assertEqual(compare("ab", "", ""), 0)
        self.assertEqual(compare("ab", "", "a"), -1)
        self.assertEqual(compare("ab", "b", ""), 1)

    def test_against_an_order_that_is_worked_out_in_another_way(self):
        for letters in ("ab", "ba", "b_A"):
            table = {ord(letter): str(at) for at, letter in enumerate(letters)}
            values = texts(letters, 3)
            ordered = sorted(values, key=lambda value: value.translate(table))
            for at, one in enumerate(ordered):
                for place, other in enumerate(ordered):
                    self.assertEqual(compare(letters, one, other), (at > place) - (at < place))

    def test_it_returns_integers(self):
        for one, other in (("a", "b"), ("a", "a"), ("b", "a")):
            self.assertIs(compare("ab", one, other).__class__, int)

    def test_letters_are_checked_first(self):
        caught(BadLetters, compare, "a", 1, 2)
        caught(BadLetters, compare, None, "a", "b")


if __name__ == "__main__":
    unittest.main()
