"""The ready machines: their rows, what they make, their errors."""

import unittest
from itertools import groupby, product

from foldlook.errors import BadLetters, BadMachine, BadValue
from foldlook.machines import Machine, cut, mapped, plain, squeezed, stripped
from helper import NOT_TEXTS, caught, texts


class PlainTest(unittest.TestCase):
    def test_rows(self):
        self.assertEqual(plain("ab").rows, (((0, "a"), (0, "b")),))
        self.assertEqual(plain("c_aB").rows, (((0, "c"), (0, "_"), (0, "a"), (0, "B")),))

    def test_made(self):
        for value in texts("b_A", 4):
            self.assertEqual(plain("b_A").made(value), value)
            self.assertEqual(plain("b_A").state_after(value), 0)


class MappedTest(unittest.TestCase):
    def test_rows(self):
        self.assertEqual(mapped("Aab", ("a", "a", "")).rows, (((0, "a"), (0, "a"), (0, "")),))

    def test_made(self):
        for outs in product(["", "a", "_", "b"], repeat=3):
            table = {ord(letter): out for letter, out in zip("a_b", outs)}
            for value in texts("a_b", 3):
                self.assertEqual(mapped("a_b", outs).made(value), value.translate(table))

    def test_what_is_not_a_tuple(self):
        for wrong in NOT_TEXTS + ["ab", ["a", "b"], {"a": "b", "b": "a"}]:
            if not isinstance(wrong, tuple):
                self.assertIsNone(caught(BadMachine, mapped, "ab", wrong).row)

    def test_not_a_letter_or_nothing_for_each_letter(self):
        wrongs = [(), ("a",), ("a", "b", "a"), ("a", "c"), ("ab", "a"), ("a", "ba"), ("a", None), (0, "a")]
        wrongs += [("a", True), ("a", b""), ("a", ["b"]), ("a", ()), (["a"], "b"), ("a", "-"), ("a", "A")]
        for wrong in wrongs:
            self.assertEqual(caught(BadMachine, mapped, "ab", wrong).row, 0)

    def test_letters_are_checked_first(self):
        for outs in (None, (), ("a", "b"), ["a"]):
            caught(BadLetters, mapped, "aa", outs)

    def test_outs_stay_as_they_are(self):
        outs = ["a", "b"]
        caught(BadMachine, mapped, "ab", outs)
        self.assertEqual(outs, ["a", "b"])


class CutTest(unittest.TestCase):
    def test_rows(self):
        self.assertEqual(cut("ab", 0).rows, (((0, ""), (0, "")),))
        self.assertEqual(cut("ab", 1).rows, (((1, "a"), (1, "b")), ((1, ""), (1, ""))))
        self.assertEqual(
            cut("c_a", 2).rows,
            (((1, "c"), (1, "_"), (1, "a")), ((2, "c"), (2, "_"), (2, "a")), ((2, ""), (2, ""), (2, ""))),
        )

    def test_made(self):
        for many in range(6):
            self.assertEqual(len(cut("ba", many)), many + 1)
            for value in texts("ba", 7):
                self.assertEqual(cut("ba", many).made(value), value[:many])
                self.assertEqual(cut("ba", many).state_after(value), min(many, len(value)))

    def test_what_is_not_a_number_from_0_to_5(self):
        for wrong in [-1, 6, 7, -10 ** 30, 10 ** 30, True, False, None, "1", b"1", [], [1], (1,), {}, object()]:
            self.assertIsNone(caught(BadMachine, cut, "ab", wrong).row)

    def test_letters_are_checked_first(self):
        for many in (-1, 6, None, True, 2):
            caught(BadLetters, cut, "a", many)


class StrippedTest(unittest.TestCase):
    def test_rows(self):
        self.assertEqual(
            stripped("_ab", "_").rows,
            (((0, ""), (1, "a"), (1, "b")), ((1, "_"), (1, "a"), (1, "b"))),
        )
        self.assertEqual(stripped("ab", "").rows, (((1, "a"), (1, "b")), ((1, "a"), (1, "b"))))
        self.assertEqual(stripped("ab", "ba").rows, (((0, ""), (0, "")), ((1, "a"), (1, "b"))))

    def test_made(self):
        for some in ("", "a", "_", "b", "b_", "ab_"):
            machine = stripped("_ab", some)
            for value in texts("_ab", 5):
                kept = value.lstrip(some) if some else value
                self.assertEqual(machine.made(value), kept)
                self.assertEqual(machine.state_after(value), 1 if kept else 0)

    def test_any_order_and_several_times(self):
        self.assertEqual(stripped("_ab", "b_"), stripped("_ab", "_b"))
        self.assertEqual(stripped("_ab", "__b__bb"), stripped("_ab", "_b"))

    def test_wrong_letters_to_strip(self):
        for wrong in NOT_TEXTS + ["c", "ac", "_", "?"]:
            caught(BadValue, stripped, "ab", wrong)
            caught(BadLetters, stripped, "abcde", wrong)


class SqueezedTest(unittest.TestCase):
    def test_rows(self):
        self.assertEqual(
            squeezed("_ab", "_a").rows,
            (
                ((1, "_"), (2, "a"), (3, "b")),
                ((1, ""), (2, "a"), (3, "b")),
                ((1, "_"), (2, ""), (3, "b")),
                ((1, "_"), (2, "a"), (3, "b")),
            ),
        )
        self.assertEqual(squeezed("ab", "").rows, (((1, "a"), (2, "b")),) * 3)

    def test_made(self):
        for some in ("", "a", "_", "b", "b_", "ab_"):
            machine = squeezed("_ab", some)
            self.assertEqual(len(machine), 4)
            for value in texts("_ab", 6):
                runs = [(letter, "".join(run)) for letter, run in groupby(value)]
                kept = "".join(letter if letter in some else run for letter, run in runs)
                self.assertEqual(machine.made(value), kept)
                last = "_ab".index(value[-1]) + 1 if value else 0
                self.assertEqual(machine.state_after(value), last)

    def test_four_letters_have_five_states(self):
        self.assertEqual(len(squeezed("aAbB", "aB")), 5)
        self.assertEqual(squeezed("aAbB", "aB").made("aaAAaBBbBB"), "aAAaBbB")

    def test_any_order_and_several_times(self):
        self.assertEqual(squeezed("_ab", "bb_"), squeezed("_ab", "_b"))

    def test_wrong_letters_to_squeeze(self):
        for wrong in NOT_TEXTS + ["c", "ac", "_", "?"]:
            caught(BadValue, squeezed, "ab", wrong)
            caught(BadLetters, squeezed, "ab1", wrong)


class MachineTest(unittest.TestCase):
    def test_they_are_machines_of_their_letters(self):
        made = (plain("ba"), mapped("ba", ("", "")), cut("ba", 3), stripped("ba", "b"), squeezed("ba", "b"))
        for machine in made:
            self.assertIs(machine.__class__, Machine)
            self.assertEqual(machine.letters, "ba")


if __name__ == "__main__":
    unittest.main()
