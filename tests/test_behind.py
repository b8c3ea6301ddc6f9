"""The machine of one machine behind which another one stands."""

import unittest
from itertools import product

from foldlook.errors import BadMachine, TooLarge, Unlike
from foldlook.machines import Machine, behind, cut, mapped, plain, squeezed, stripped
from helper import NOT_MACHINES, caught, texts


def ring(many):
    """A machine that goes around through so many states, and makes all letters."""
    return Machine("ab", tuple((((state + 1) % many, "a"), ((state + 1) % many, "b")) for state in range(many)))


def numbered(one, other):
    """The pairs of states that come about, in the order of [3], by values that lead to them.

    A state is reached from the earliest pair, and there by the earliest letter:
    that is by the first value, if shorter ones come first.
    """
    pairs = []
    for value in texts(one.letters, 6):
        pair = (one.state_after(value), other.state_after(one.made(value)))
        if pair not in pairs:
            pairs.append(pair)
    return pairs


class RowsTest(unittest.TestCase):
    def test_plain_changes_nothing(self):
        for machine in (plain("ab"), cut("ab", 3), cut("ab", 5), ring(6)):
            self.assertEqual(behind(machine, plain("ab")), machine)
            self.assertEqual(behind(plain("ab"), machine), machine)

    def test_stripped_ahead_of_cut(self):
        self.assertEqual(
            behind(stripped("_a", "_"), cut("_a", 1)).rows,
            (((0, ""), (1, "a")), ((1, ""), (1, ""))),
        )

    def test_cut_ahead_of_stripped(self):
        self.assertEqual(
            behind(cut("_a", 1), stripped("_a", "_")).rows,
            (((1, ""), (2, "a")), ((1, ""), (1, "")), ((2, ""), (2, ""))),
        )

    def test_other_one_stays_if_the_first_one_makes_nothing(self):
        every = Machine("ab", (((1, ""), (0, "b")), ((0, "a"), (1, ""))))
        self.assertEqual(
            behind(every, ring(2)).rows,
            (((1, ""), (2, "b")), ((2, "a"), (1, "")), ((3, ""), (0, "b")), ((0, "a"), (3, ""))),
        )

    def test_states_are_numbered_one_state_after_the_other(self):
        # From its first state b leads to state 1, and a to state 3; the joined one sees a first.
        jumpy = Machine("ab", (((3, "a"), (1, "b")), ((2, "a"), (1, "b")), ((2, ""), (0, "")), ((3, "b"), (2, "a"))))
        self.assertEqual(
            behind(jumpy, plain("ab")).rows,
            (((1, "a"), (2, "b")), ((1, "b"), (3, "a")), ((3, "a"), (2, "b")), ((3, ""), (0, ""))),
        )

    def test_states_that_are_not_reached_are_left_out(self):
        self.assertEqual(behind(stripped("ab", "ab"), squeezed("ab", "a")).rows, (((0, ""), (0, "")),))
        twice = Machine("ab", plain("ab").rows * 6)
        self.assertEqual(behind(twice, twice), plain("ab"))

    def test_order_of_both(self):
        small, late = mapped("Aa", ("a", "a")), mapped("Aa", ("A", ""))
        self.assertEqual(behind(small, late), mapped("Aa", ("", "")))
        self.assertEqual(behind(late, small), mapped("Aa", ("a", "")))


class MadeTest(unittest.TestCase):
    def test_against_one_and_then_the_other(self):
        values = texts("ab", 6)
        some = [plain("ab"), mapped("ab", ("b", "b")), mapped("ab", ("", "a"))]
        some += [cut("ab", 0), cut("ab", 1), cut("ab", 2)]
        some += [stripped("ab", "a"), stripped("ab", "b"), squeezed("ab", "b"), squeezed("ab", "ab"), ring(2), ring(3)]
        large = 0
        for one, other in product(some, repeat=2):
            pairs = numbered(one, other)
            if len(pairs) > 6:
                large += 1
                caught(TooLarge, behind, one, other)
                continue
            machine = behind(one, other)
            self.assertEqual(len(machine), len(pairs))
            for value in values:
                self.assertEqual(machine.made(value), other.made(one.made(value)))
                pair = (one.state_after(value), other.state_after(one.made(value)))
                self.assertEqual(machine.state_after(value), pairs.index(pair))
        self.assertGreater(large, 0)

    def test_four_letters(self):
        small, squeeze = mapped("aAbB", ("a", "a", "b", "b")), squeezed("aAbB", "ab")
        machine = behind(small, squeeze)
        for value in texts("aAbB", 4):
            self.assertEqual(machine.made(value), squeeze.made(small.made(value)))

    def test_both_stay_as_they_are(self):
        one, other = ring(2), cut("ab", 1)
        behind(one, other)
        self.assertEqual((one, other), (ring(2), cut("ab", 1)))


class ErrorsTest(unittest.TestCase):
    def test_six_states_and_more(self):
        self.assertEqual(len(behind(ring(2), ring(3))), 6)
        self.assertEqual(len(behind(ring(6), ring(6))), 6)
        self.assertEqual(len(numbered(cut("ab", 3), stripped("ab", "a"))), 7)
        caught(TooLarge, behind, cut("ab", 3), stripped("ab", "a"))
        caught(TooLarge, behind, ring(6), ring(5))
        caught(TooLarge, behind, squeezed("abcd", "a"), cut("abcd", 5))

    def test_what_is_not_a_machine(self):
        for wrong in NOT_MACHINES:
            self.assertIsNone(caught(BadMachine, behind, wrong, plain("ab")).row)
            self.assertIsNone(caught(BadMachine, behind, plain("ab"), wrong).row)
            self.assertIsNone(caught(BadMachine, behind, wrong, wrong).row)

    def test_other_letters(self):
        caught(Unlike, behind, plain("ab"), plain("ac"))
        caught(Unlike, behind, plain("ab"), plain("abc"))
        caught(Unlike, behind, plain("abc"), plain("ab"))
        # Letters are a text: in another order, they are other letters.
        caught(Unlike, behind, plain("ab"), plain("ba"))

    def test_unlike_is_checked_ahead_of_what_is_too_large(self):
        caught(Unlike, behind, cut("ab", 5), stripped("ac", "a"))
        caught(TooLarge, behind, cut("ab", 5), stripped("ab", "a"))


if __name__ == "__main__":
    unittest.main()
