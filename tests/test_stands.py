"""The stands of conditions after values, letter by letter."""

import re
import unittest

from foldlook.conditions import meets, stand
from foldlook.machines import cut, mapped, plain, squeezed, stripped
from helper import texts


def way(letters, condition, value):
    """The stands after all beginnings of a value, the empty one included."""
    return [stand(plain(letters), condition, value[:many]) for many in range(len(value) + 1)]


def matched(text, given, stays):
    """The stand of "equal" or "begins" for a text, from how the text stands to what is given."""
    if given.startswith(text):
        return len(text)
    return len(given) if stays and text.startswith(given) else -1


def beside(letters, text, bound):
    """One item of the stand of "between" for a text."""
    if bound.startswith(text):
        return len(text)
    ahead = [letters.find(sign) for sign in text] < [letters.find(sign) for sign in bound]
    return -1 if ahead else -2


def reached(pattern, text):
    """The stand of "like" for a text: the lengths of those beginnings of the pattern that it is of the form of.

    A place of a star stays, so a beginning ahead of a star counts with this star.
    """
    found = []
    for many in range(len(pattern) + 1):
        beginning = pattern[:many + 1] if pattern[many:many + 1] == "*" else pattern[:many]
        if re.fullmatch(beginning.replace("?", ".").replace("*", ".*"), text):
            found.append(many)
    return tuple(found)


class EqualTest(unittest.TestCase):
    def test_letter_by_letter(self):
        self.assertEqual(way("ab", ("equal", "aba"), "aba"), [0, 1, 2, 3])
        self.assertEqual(way("ab", ("equal", "aba"), "abaab"), [0, 1, 2, 3, -1, -1])
        self.assertEqual(way("ab", ("equal", "aba"), "abba"), [0, 1, 2, -1, -1])
        self.assertEqual(way("ab", ("equal", "aba"), "ba"), [0, -1, -1])

    def test_minus_1_stays_even_if_the_last_letter_follows(self):
        self.assertEqual(way("ab", ("equal", "ab"), "bbbab"), [0, -1, -1, -1, -1, -1])
        self.assertEqual(way("ab", ("equal", "a"), "baaa"), [0, -1, -1, -1, -1])

    def test_empty_text(self):
        self.assertEqual(way("ab", ("equal", ""), "ab"), [0, -1, -1])

    def test_all(self):
        for given in texts("ab", 4):
            for text in texts("ab", 5):
                self.assertEqual(stand(plain("ab"), ("equal", given), text), matched(text, given, False))


class BeginsTest(unittest.TestCase):
    def test_letter_by_letter(self):
        self.assertEqual(way("ab", ("begins", "ab"), "abba"), [0, 1, 2, 2, 2])
        self.assertEqual(way("ab", ("begins", "ab"), "aabb"), [0, 1, -1, -1, -1])
        self.assertEqual(way("ab", ("begins", "ab"), "bab"), [0, -1, -1, -1])

    def test_empty_text(self):
        self.assertEqual(way("ab", ("begins", ""), "ab"), [0, 0, 0])

    def test_all(self):
        for given in texts("ab", 4):
            for text in texts("ab", 5):
                self.assertEqual(stand(plain("ab"), ("begins", given), text), matched(text, given, True))


class BetweenTest(unittest.TestCase):
    def test_letter_by_letter(self):
        self.assertEqual(
            way("abc", ("between", "ab", "b"), "aca"),
            [(0, 0), (1, -1), (-2, -1), (-2, -1)],
        )
        self.assertEqual(way("abc", ("between", "ab", "b"), "aba"), [(0, 0), (1, -1), (2, -1), (-2, -1)])
        self.assertEqual(way("abc", ("between", "ab", "b"), "aab"), [(0, 0), (1, -1), (-1, -1), (-1, -1)])
        self.assertEqual(way("abc", ("between", "ab", "b"), "ba"), [(0, 0), (-2, 1), (-2, -2)])
        self.assertEqual(way("abc", ("between", "ab", "b"), "ca"), [(0, 0), (-2, -2), (-2, -2)])

    def test_order_of_letters_is_that_in_the_text(self):
        self.assertEqual(way("ba", ("between", "a", "b"), "b"), [(0, 0), (-1, 1)])
        self.assertEqual(way("ba", ("between", "a", "b"), "a"), [(0, 0), (1, -2)])
        self.assertEqual(way("b_A", ("between", "_", "_"), "A"), [(0, 0), (-2, -2)])

    def test_empty_bounds(self):
        self.assertEqual(way("ab", ("between", "", ""), "ab"), [(0, 0), (-2, -2), (-2, -2)])
        self.assertEqual(way("ab", ("between", "", "a"), "aa"), [(0, 0), (-2, 1), (-2, -2)])

    def test_p_behind_q(self):
        self.assertEqual(way("ab", ("between", "b", "a"), "ab"), [(0, 0), (-1, 1), (-1, -2)])

    def test_same_bounds(self):
        self.assertEqual(way("ab", ("between", "ab", "ab"), "aba"), [(0, 0), (1, 1), (2, 2), (-2, -2)])

    def test_all(self):
        for letters in ("ab", "ba"):
            for bound in texts(letters, 4):
                for text in texts(letters, 5):
                    right = beside(letters, text, bound)
                    other = beside(letters, text, "ab")
                    self.assertEqual(stand(plain(letters), ("between", bound, "ab"), text), (right, other))
                    self.assertEqual(stand(plain(letters), ("between", "ab", bound), text), (other, right))


class LikeTest(unittest.TestCase):
    def test_letter_by_letter(self):
        self.assertEqual(way("ab", ("like", "ab"), "aba"), [(0,), (1,), (2,), ()])
        self.assertEqual(way("ab", ("like", "a?"), "abb"), [(0,), (1,), (2,), ()])
        self.assertEqual(way("ab", ("like", "*b"), "abba"), [(0, 1), (0, 1), (0, 1, 2), (0, 1, 2), (0, 1)])
        self.assertEqual(way("ab", ("like", "*b"), "bb")[1], (0, 1, 2))
        self.assertEqual(way("ab", ("like", "a*b"), "aab"), [(0,), (1, 2), (1, 2), (1, 2, 3)])
        self.assertEqual(way("ab", ("like", "*?a"), "ba"), [(0, 1), (0, 1, 2), (0, 1, 2, 3)])

    def test_a_star_at_the_end(self):
        self.assertEqual(way("ab", ("like", "a*"), "ab"), [(0,), (1, 2), (1, 2)])
        self.assertEqual(way("ab", ("like", "a*"), "ba"), [(0,), (), ()])

    def test_several_stars_beside_one_another(self):
        self.assertEqual(way("ab", ("like", "**a"), "ba"), [(0, 1, 2), (0, 1, 2), (0, 1, 2, 3)])
        self.assertEqual(way("ab", ("like", "****"), "a"), [(0, 1, 2, 3, 4)] * 2)
        self.assertEqual(way("ab", ("like", "a**b"), "ab"), [(0,), (1, 2, 3), (1, 2, 3, 4)])

    def test_empty_pattern(self):
        self.assertEqual(way("ab", ("like", ""), "ab"), [(0,), (), ()])

    def test_kinds_of_values(self):
        for pattern in ("", "a", "*", "a*"):
            found = stand(plain("ab"), ("like", pattern), "a")
            self.assertIs(found.__class__, tuple)

    def test_all(self):
        values = texts("ab", 5)
        for pattern in texts("ab?*", 4):
            for text in values:
                self.assertEqual(stand(plain("ab"), ("like", pattern), text), reached(pattern, text), (pattern, text))


class MadeTest(unittest.TestCase):
    def test_it_is_that_of_what_the_machine_makes(self):
        machines = [mapped("_ab", ("", "b", "a")), cut("_ab", 2), stripped("_ab", "_"), squeezed("_ab", "_a")]
        conditions = [("equal", "ab"), ("begins", "_a"), ("between", "_a", "ab"), ("like", "*a?"), ("equal", "")]
        for machine in machines:
            for condition in conditions:
                for value in texts("_ab", 4):
                    right = stand(plain("_ab"), condition, machine.made(value))
                    self.assertEqual(stand(machine, condition, value), right)

    def test_letters_that_make_nothing_leave_it_as_it_is(self):
        self.assertEqual(stand(stripped("_ab", "_"), ("equal", ""), "___"), 0)
        self.assertEqual(stand(cut("ab", 1), ("between", "a", "b"), "abb"), (1, -1))

    def test_met_just_as_the_stand_tells(self):
        whole = plain("ab")
        for given in texts("ab", 3):
            for text in texts("ab", 4):
                for word in ("equal", "begins"):
                    found = stand(whole, (word, given), text)
                    self.assertIs(meets(whole, (word, given), text), found == len(given))
                low, high = stand(whole, ("between", given, "ab"), text)
                self.assertIs(meets(whole, ("between", given, "ab"), text), low in (-2, len(given)) and high != -2)
                places = stand(whole, ("like", given + "*"), text)
                self.assertIs(meets(whole, ("like", given + "*"), text), len(given) + 1 in places)


if __name__ == "__main__":
    unittest.main()
