"""Machines: rows, turns, what they make, equality, wrong rows."""

import unittest
from itertools import product

from foldlook.conditions import KINDS
from foldlook.errors import BadLetters, BadMachine, BadValue, FoldError
from foldlook.machines import Machine, cut, plain, squeezed, stripped
from helper import NOT_TEXTS, caught, texts


def ring(many):
    """A machine that goes around through so many states, and makes an a at the end of each round."""
    rows = []
    for state in range(many):
        turn = ((state + 1) % many, "a" if state == many - 1 else "")
        rows.append((turn, (state, "b")))
    return Machine("ab", tuple(rows))


def read(rows, letters, value):
    """The state after a value, and what is made of it, last letter last."""
    if value == "":
        return 0, ""
    state, made = read(rows, letters, value[:-1])
    state, out = rows[state][letters.find(value[-1])]
    return state, made + out


class MadeTest(unittest.TestCase):
    def test_all_machines_of_one_state(self):
        turns = list(product([0], ["", "a", "b"]))
        self.hold("ab", [(row,) for row in product(turns, repeat=2)], 4)

    def test_all_machines_of_two_states(self):
        turns = list(product([0, 1], ["", "b", "a"]))
        self.hold("ba", product(product(turns, repeat=2), repeat=2), 3)

    def hold(self, letters, machines, most):
        values = texts(letters, most)
        for rows in machines:
            machine = Machine(letters, rows)
            for value in values:
                state, made = read(rows, letters, value)
                self.assertEqual(machine.made(value), made)
                self.assertEqual(machine.state_after(value), state)

    def test_one_to_six_states(self):
        for many in range(1, 7):
            machine = ring(many)
            self.assertEqual(len(machine), many)
            for value in texts("ab", 7):
                rounds, rest = divmod(value.count("a"), many)
                self.assertEqual(machine.state_after(value), rest)
                self.assertEqual(machine.made(value).count("a"), rounds)
                self.assertEqual(machine.made(value).count("b"), value.count("b"))

    def test_what_is_made_stands_in_order(self):
        self.assertEqual(ring(2).made("abbaab"), "bbab")
        self.assertEqual(ring(3).made("aabab"), "bab")

    def test_turns_that_make_nothing(self):
        mute = Machine("ab", (((1, ""), (0, "")), ((0, ""), (1, ""))))
        self.assertEqual(mute.made("abaab"), "")
        self.assertEqual(mute.state_after("abaab"), 1)
        self.assertEqual(mute.state_after(""), 0)

    def test_four_letters_have_turns_in_their_order(self):
        machine = Machine("dAc_", (((0, "A"), (0, "c"), (0, "_"), (0, "d")),))
        self.assertEqual(machine.made("dAc_"), "Ac_d")

    def test_a_machine_never_changes(self):
        machine = ring(3)
        for value in ("a", "ab", "aab"):
            machine.made(value)
            machine.state_after(value)
        self.assertEqual(machine, ring(3))
        self.assertEqual(machine.made("aaa"), "a")

    def test_wrong_values(self):
        for wrong in NOT_TEXTS + ["c", "abA", "a-"]:
            caught(BadValue, ring(2).made, wrong)
            caught(BadValue, ring(2).state_after, wrong)


class PropertiesTest(unittest.TestCase):
    def test_as_the_parameters(self):
        rows = (((1, "a"), (0, "")), ((1, ""), (0, "b")))
        machine = Machine("ab", rows)
        self.assertEqual(machine.letters, "ab")
        self.assertEqual(machine.rows, rows)
        self.assertIsInstance(machine.rows, tuple)
        self.assertEqual(len(machine), 2)

    def test_rows_make_the_machine_again(self):
        for machine in (ring(6), plain("aAbB"), cut("ab", 5), stripped("_ab", "_"), squeezed("_abc", "b")):
            self.assertEqual(Machine(machine.letters, machine.rows), machine)


class EqualTest(unittest.TestCase):
    def test_letters_and_rows_decide(self):
        rows = (((0, ""), (0, "")),)
        self.assertTrue(Machine("ab", rows) == Machine("ab", (((0, ""), (0, "")),)))
        self.assertFalse(Machine("ab", rows) != Machine("ab", rows))
        self.assertFalse(Machine("ab", rows) == Machine("ba", rows))
        self.assertTrue(Machine("ab", rows) != Machine("ac", rows))
        self.assertFalse(Machine("ab", rows) == Machine("ab", rows + rows))
        self.assertTrue(Machine("ab", rows) != Machine("ab", (((0, ""), (0, "a")),)))
        self.assertTrue(plain("ab") == Machine("ab", (((0, "a"), (0, "b")),)))

    def test_same_makings_in_other_states_are_not_equal(self):
        self.assertFalse(plain("ab") == Machine("ab", (((0, "a"), (0, "b")),) * 2))
        self.assertFalse(stripped("ab", "") == plain("ab"))

    def test_equal_is_true_or_false(self):
        self.assertIs(plain("ab") == plain("ab"), True)
        self.assertIs(plain("ab") == plain("ac"), False)
        self.assertIs(plain("ab") == cut("ab", 0), False)

    def test_something_else_of_this_package(self):
        for other in (FoldError("why"), BadMachine(None), KINDS, Machine, plain):
            self.assertFalse(plain("ab") == other)
            self.assertTrue(plain("ab") != other)
            self.assertFalse(other == plain("ab"))


class WrongRowsTest(unittest.TestCase):
    def row(self, rows, letters="ab"):
        return caught(BadMachine, Machine, letters, rows).row

    def test_not_a_tuple_of_one_to_six_items(self):
        good = ((0, "a"), (0, "b"))
        for wrong in NOT_TEXTS + ["", "ab", [good], (), {0: good}, (good,) * 7, (7,) * 7]:
            if wrong != ("a",):
                self.assertIsNone(self.row(wrong), wrong)
        self.assertEqual(self.row(("a",)), 0)
        self.assertEqual(len(Machine("ab", (good,) * 6)), 6)

    def test_not_a_row(self):
        good = ((0, "a"), (1, "b"))
        wrongs = NOT_TEXTS + [
            [(0, "a"), (1, "b")], ((0, "a"),), ((0, "a"), (1, "b"), (0, "")), "ab",
            ((0, "a"), [1, "b"]), ((0, "a"), 1), ((0, "a"), "b"), ((0, "a"), "0b"), ((0, "a"), None),
            ((0, "a"), ()), ((0, "a"), (1,)), ((0, "a"), (1, "b", "")),
            ((0, "a"), (6, "b")), ((0, "a"), (-1, "b")), ((-2, "a"), (0, "b")), ((10 ** 30, "a"), (0, "b")),
            ((True, "a"), (1, "b")), ((0, "a"), (False, "b")),
            ((None, "a"), (1, "b")), (("0", "a"), (1, "b")), (([], "a"), (1, "b")),
            ((0, "c"), (1, "b")), ((0, "a"), (1, "B")), ((0, "-"), (1, "b")), ((0, " "), (1, "b")),
            ((0, "ab"), (1, "b")), ((0, "a"), (1, "aa")), ((0, "a"), (1, "ba")),
            ((0, None), (1, "b")), ((0, 0), (1, "b")), ((0, b""), (1, "b")), ((0, []), (1, "b")),
            ((0, ["a"]), (1, "b")), ((0, ("a",)), (1, "b")), ((0, True), (1, "b")), ((0, {}), (1, "b")),
            (("a", 0), ("b", 1)),
        ]
        for wrong in wrongs:
            self.assertEqual(self.row((wrong, good)), 0, wrong)
            self.assertEqual(self.row((good, wrong)), 1, wrong)
            self.assertEqual(self.row((good, wrong, wrong)), 1, wrong)
            self.assertEqual(self.row((good,) * 5 + (wrong,)), 5, wrong)

    def test_the_first_one_that_is_not_a_row(self):
        good = ((0, "a"), (0, "b"))
        self.assertEqual(self.row((good, ((0, "a"),), "ab", good)), 1)
        self.assertEqual(self.row((good, good, ((3, "a"), (0, "b")))), 2)
        # The last turn of a row is as good a reason as its first one.
        self.assertEqual(self.row((good, ((0, "a"), (3, "b")), ((7, "a"), (0, "b")))), 1)

    def test_states_that_are_there(self):
        for many in range(1, 7):
            row = ((many - 1, "a"), (0, ""))
            self.assertEqual(len(Machine("ab", (row,) * many)), many)
            over = ((many, "a"), (0, ""))
            self.assertEqual(self.row((row,) * (many - 1) + (over,)), many - 1)

    def test_turns_for_all_letters(self):
        turn = (0, "")
        for letters in ("ab", "abc", "abcd"):
            for many in range(6):
                row = (turn,) * many
                if many == len(letters):
                    self.assertEqual(Machine(letters, (row,)).made(letters), "")
                else:
                    self.assertEqual(self.row((row,), letters), 0)

    def test_letters_are_checked_first(self):
        for rows in (None, (), ("a",), (((0, "a"), (0, "b")),)):
            caught(BadLetters, Machine, "a", rows)
            caught(BadLetters, Machine, None, rows)

    def test_wrong_rows_stay_as_they_are(self):
        rows = [[[0, "a"], [0, "b"]]]
        self.assertIsNone(self.row(rows))
        self.assertEqual(self.row((rows[0],)), 0)
        self.assertEqual(rows, [[[0, "a"], [0, "b"]]])


if __name__ == "__main__":
    unittest.main()
