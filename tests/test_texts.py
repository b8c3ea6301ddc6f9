"""Texts ([13]): machines and conditions, written and read again."""

import random
import re
import unittest
from itertools import permutations, product

from foldlook.errors import BadCondition, BadLetters, BadMachine, BadText
from foldlook.machines import Machine, cut, mapped, plain, squeezed, stripped
from foldlook.texts import condition_text, machine_text, read_condition, read_machine
from helper import (
    NOT_CONDITIONS, NOT_LETTERS, NOT_MACHINES, NOT_TEXTS, caught, drawn_condition, drawn_machine, ready_machines, texts,
)

# Signs that may stand in a text by mistake.
SIGNS = "ab_AZz09- \n\t\r?*.:,{[`@^\u00e4\u0660\u00b2\u0430\x00"

ALL_LETTERS = "ABCDEFGHIJKLMNOPQRSTUVWXYZ_abcdefghijklmnopqrstuvwxyz"


def machine_or_row(text):
    """The machine of a text, or the row that is due, from the words of the document."""
    lines = re.findall("([^\n]*)\n", text)
    rest = text[sum(len(line) + 1 for line in lines):]
    letters = ""
    rows = []
    for at, line in enumerate(lines):
        if at == 0:
            head = re.fullmatch("letters ([A-Z_a-z]{2,4})", line)
            if head is None or len(set(head[1])) < len(head[1]):
                return 0
            letters = head[1]
        elif at > 6 or not re.fullmatch("state( [0-9][" + letters + "-]){" + str(len(letters)) + "}", line):
            return at
        else:
            turns = re.findall("([0-9])([" + letters + "-])", line.partition(" ")[2])
            rows.append(tuple((int(state), out.replace("-", "")) for state, out in turns))
    nexts = [state for row in rows for state, _ in row]
    if not rows or rest or max(nexts) >= len(rows):
        return len(lines)
    return Machine(letters, tuple(rows))


def condition_or_row(letters, text):
    """The condition of a text, or the row that is due, from the words of the document."""
    lines = re.findall("([^\n]*)\n", text)
    rest = text[sum(len(line) + 1 for line in lines):]
    value = "([" + letters + "]{1,4}|-)"
    patterns = ["(equal|begins) " + value, "(between) " + value + " " + value, "(like) ([" + letters + "?*]{1,4}|-)"]
    found = None
    for at, line in enumerate(lines):
        fits = [held for held in (re.fullmatch(pattern, line) for pattern in patterns) if held]
        if at == 1 or not fits:
            return at
        found = (fits[0][1],) + tuple(text.replace("-", "") for text in fits[0].groups()[1:])
    return len(lines) if rest or not lines else found


def near(text, signs):
    """Texts with a sign left out, put in, exchanged or doubled, at each place; and with two side by side exchanged."""
    for at in range(len(text) + 1):
        yield text[:at]
        yield text[at:]
        for sign in signs:
            yield text[:at] + sign + text[at:]
        if at < len(text):
            yield text[:at] + text[at + 1:]
            yield text[:at] + text[at] + text[at:]
            yield text[:at] + text[at:at + 2][::-1] + text[at + 2:]
            for sign in signs:
                yield text[:at] + sign + text[at + 1:]


def near_words(text, words):
    """Texts with a word or a line left out, doubled, exchanged, or put in."""
    lines = text.split("\n")
    for at, line in enumerate(lines):
        yield "\n".join(lines[:at] + lines[at + 1:])
        yield "\n".join(lines[:at] + [line, line] + lines[at + 1:])
        yield "\n".join(lines[:at] + [""] + lines[at:])
        yield "\n".join(lines[:at] + lines[at:at + 2][::-1] + lines[at + 2:])
        parts = line.split(" ")
        for place in range(len(parts) + 1):
            left_out = parts[:place] + parts[place + 1:]
            exchanged = parts[:place] + parts[place:place + 2][::-1] + parts[place + 2:]
            for some in (left_out, exchanged):
                yield "\n".join(lines[:at] + [" ".join(some)] + lines[at + 1:])
            for word in words:
                for some in (parts[:place] + [word] + parts[place:], parts[:place] + [word] + parts[place + 1:]):
                    yield "\n".join(lines[:at] + [" ".join(some)] + lines[at + 1:])


class MachineTextTest(unittest.TestCase):
    def test_examples(self):
        self.assertEqual(machine_text(plain("ab_")), "letters ab_\nstate 0a 0b 0_\n")
        self.assertEqual(machine_text(cut("ab", 1)), "letters ab\nstate 1a 1b\nstate 1- 1-\n")
        self.assertEqual(machine_text(mapped("aAbB", ("a", "a", "", "b"))), "letters aAbB\nstate 0a 0a 0- 0b\n")
        self.assertEqual(machine_text(stripped("_a", "_")), "letters _a\nstate 0- 1a\nstate 1_ 1a\n")
        # The state that is led to, and what is made, of a turn.
        self.assertEqual(
            machine_text(Machine("Zz", (((2, "z"), (1, "")), ((0, ""), (2, "Z")), ((1, "Z"), (0, "z"))))),
            "letters Zz\nstate 2z 1-\nstate 0- 2Z\nstate 1Z 0z\n",
        )
        found = read_machine("letters ab_\nstate 0a 1- 0_\nstate 1b 1b 0-\n")
        self.assertEqual(found.rows, (((0, "a"), (1, ""), (0, "_")), ((1, "b"), (1, "b"), (0, ""))))

    def test_written_and_read_again(self):
        chance = random.Random(13)
        seen = set()
        for _ in range(400):
            letters = "".join(chance.sample(ALL_LETTERS, chance.randint(2, 4)))
            machine = chance.choice(ready_machines(letters) + [drawn_machine(chance, letters, 6, 3) for _ in range(20)])
            text = machine_text(machine)
            seen.add((len(letters), len(machine)))
            words = [["letters", letters]]
            words += [["state"] + [str(state) + (out or "-") for state, out in row] for row in machine.rows]
            self.assertEqual(text, "".join(" ".join(line) + "\n" for line in words))
            self.assertEqual(read_machine(text), machine)
            self.assertEqual(machine_or_row(text), machine)
            again = read_machine(text)
            self.assertEqual((again.letters, again.rows), (letters, machine.rows))
            self.assertIsNot(again, read_machine(text))
        self.assertEqual(seen, set(product((2, 3, 4), range(1, 7))))

    def test_what_is_not_a_machine(self):
        for wrong in NOT_MACHINES:
            self.assertIsNone(caught(BadMachine, machine_text, wrong).row)


class ReadMachineTest(unittest.TestCase):
    def hold(self, text):
        """That a text is read as the document says, or refused with the row that it says."""
        due = machine_or_row(text)
        if isinstance(due, Machine):
            self.assertEqual(read_machine(text), due, text)
            # Only texts that are written exactly in this way can be read.
            self.assertEqual(machine_text(due), text)
        else:
            self.assertEqual(caught(BadText, read_machine, text).row, due, text)
        return due

    def wrong(self, text, row):
        self.assertEqual(caught(BadText, read_machine, text).row, row, text)
        self.assertEqual(machine_or_row(text), row, text)

    def test_near_texts(self):
        six = Machine("ab", tuple(((5 - at, "a"), (at, "")) for at in range(6)))
        rows = set()
        right = 0
        for machine in (plain("ab"), cut("_aB", 1), squeezed("ab", "a"), six, mapped("aAbB", ("", "a", "b", "b"))):
            text = machine_text(machine)
            words = ["letters", "state", "ab", "0a", "9-", "-", ""]
            for other in list(near(text, SIGNS)) + list(near_words(text, words)):
                due = self.hold(other)
                rows.add(due if isinstance(due, int) else None)
                right += other != text and not isinstance(due, int)
        self.assertEqual(rows, {None, 0, 1, 2, 3, 4, 5, 6, 7})
        self.assertGreater(right, 20)

    def test_two_changes(self):
        chance = random.Random(130)
        for _ in range(3000):
            text = machine_text(drawn_machine(chance, chance.choice(["ab", "_aA"]), 6, 4))
            for _ in range(2):
                at = chance.randrange(len(text))
                text = text[:at] + chance.choice(["", chance.choice(SIGNS)]) + text[at + chance.randrange(2):]
            self.hold(text)

    def test_line_feeds(self):
        text = "letters ab\nstate 0a 0b\n"
        self.assertEqual(read_machine(text), plain("ab"))
        self.wrong(text[:-1], 1)
        self.wrong("letters ab", 0)
        self.wrong("letters ab\n", 1)
        self.wrong("", 0)
        self.wrong("\n", 0)
        self.wrong("\n" + text, 0)
        self.wrong(text + "\n", 2)
        self.wrong("letters ab\n\nstate 0a 0b\n", 1)
        self.wrong(text + " ", 2)
        self.wrong(text + "state 0a 0b", 2)
        self.wrong(text + "x", 2)
        self.wrong(text.replace("\n", "\r\n"), 0)
        self.wrong("letters ab\nstate 0a 0b\r\n", 1)
        self.wrong("letters ab\rstate 0a 0b\n", 0)
        for sign in "\x0b\x0c\x1c\x1d\x1e\x85\u2028\u2029\r":
            self.wrong("letters ab" + sign + "state 0a 0b" + sign, 0)
            self.wrong("letters ab\nstate 0a 0b" + sign, 1)
            self.wrong("letters ab\nstate 0a" + sign + "0b\n", 1)

    def test_the_first_line(self):
        rest = "\nstate 0a 0b\n"
        for line in (
            "Letters ab", "LETTERS ab", "letter ab", "letters", "letters ", "letters a", "letters  ab", " letters ab",
            "letters ab ", "letters\tab", "letters aa", "letters aba", "letters abcde", "letters a b", "letters a-",
            "letters a1", "letters a\u00e4", "lettersab", "letters ab ab", "ab", "state 0a 0b", "letters abca",
            "letters -", "letters ab_c_", "letters a?", "\ufeffletters ab",
        ):
            self.wrong(line + rest, 0)
            # Whatever else is wrong later.
            self.wrong(line + "\n\nx", 0)
        for letters in ("abc", "abcd"):
            self.wrong("letters " + letters + rest, 1)
        self.assertEqual(read_machine("letters ba" + rest), Machine("ba", (((0, "a"), (0, "b")),)))

    def test_which_letters(self):
        for wrong in NOT_LETTERS:
            if isinstance(wrong, str):
                row = machine_or_row("letters " + wrong + "\nstate 0a 0b\n")
                self.wrong("letters " + wrong + "\nstate 0a 0b\n", row)

    def test_states(self):
        head = "letters ab\n"
        for line in (
            "State 0a 0b", "STATE 0a 0b", "states 0a 0b", "state", "state ", "state 0a", "state 0a 0b 0a",
            "state 0a 0b ", " state 0a 0b", "state  0a 0b", "state 0a  0b", "state\t0a 0b", "state 0a\t0b", "0a 0b",
            "state a0 b0", "state 0 0b", "state 0a0b", "state 0a0b 0b", "state 0c 0b", "state 0A 0b", "state 00a 0b",
            "state 10a 0b", "state -a 0b", "state 0-- 0b", "state 0a -", "state - -", "state -- 0b", "state 0ab 0b",
            "state +0a 0b", "state \u0660a 0b", "state \u00b2a 0b", "state 0a 0?", "state 0a 0*", "state 0a, 0b",
            "state  ", "state 0a 0\n",
        ):
            for before in range(4):
                text = head + "state 0a 0b\n" * before + line + "\n"
                self.wrong(text, before + 1)
                self.wrong(text + "x\n\n", before + 1)
        self.assertEqual(read_machine(head + "state 0- 0-\n"), mapped("ab", ("", "")))

    def test_a_state_that_has_no_line(self):
        for many in range(1, 7):
            lines = "letters ab\n" + "state 0a 0b\n" * (many - 1)
            for state in range(10):
                for line in (f"state {state}a 0b\n", f"state 0- {state}-\n"):
                    self.assertEqual(isinstance(self.hold(lines + line), Machine), state < many)
                    if state >= many:
                        self.wrong(lines + line, many + 1)
                        # In the first line of a state as well as in the last one.
                        self.wrong("letters ab\n" + line + "state 0a 0b\n" * (many - 1), many + 1)
                    if state >= many and many < 6:
                        # A wrong line comes ahead of it.
                        self.wrong(lines + line + "state 0a\n", many + 1)
                        self.wrong(lines + line + "state 0a 0b\nstate\n", many + 2)

    def test_seven_states(self):
        line = "state 0a 0b\n"
        self.assertEqual(len(read_machine("letters ab\n" + line * 6)), 6)
        # The eighth line is wrong, whatever stands in it, and whatever stands behind it.
        for last in (line, "state 6a 6b\n", "\n", "state\n", "letters ab\n", "x\n"):
            self.wrong("letters ab\n" + line * 6 + last, 7)
            self.wrong("letters ab\n" + line * 6 + last + line * 5 + "x", 7)
        self.wrong("letters ab\n" + line * 6 + "x", 7)
        self.wrong("letters ab\n" + "state 6a 0b\n" + line * 6, 7)
        self.wrong("letters ab\n" + "state 6a 0b\n" + line * 5, 7)
        self.wrong("letters ab\n" + line * 5 + "state 0a\n" + line * 3, 6)

    def test_what_is_no_text(self):
        for wrong in NOT_TEXTS:
            self.assertEqual(caught(BadText, read_machine, wrong).row, 0)
        for wrong in (["letters ab\n", "state 0a 0b\n"], b"letters ab\nstate 0a 0b\n"):
            self.assertEqual(caught(BadText, read_machine, wrong).row, 0)

    def test_long_texts(self):
        self.wrong("letters ab\n" + "state 0a 0b\n" * 5000, 7)
        self.wrong("letters " + "ab" * 5000 + "\n", 0)
        self.wrong("x" * 5000, 0)


class ConditionTextTest(unittest.TestCase):
    def test_examples(self):
        self.assertEqual(condition_text("ab", ("between", "ab", "")), "between ab -\n")
        self.assertEqual(condition_text("ab", ("between", "", "ab")), "between - ab\n")
        self.assertEqual(condition_text("ab", ("between", "", "")), "between - -\n")
        self.assertEqual(condition_text("ab", ("equal", "")), "equal -\n")
        self.assertEqual(condition_text("ab", ("begins", "abab")), "begins abab\n")
        self.assertEqual(condition_text("ab", ("like", "")), "like -\n")
        self.assertEqual(condition_text("ab_", ("like", "_?*b")), "like _?*b\n")
        self.assertEqual(read_condition("ab", "like -\n"), ("like", ""))
        self.assertEqual(read_condition("ab", "between - b\n"), ("between", "", "b"))

    def test_written_and_read_again(self):
        chance = random.Random(131)
        seen = set()
        for _ in range(600):
            letters = chance.choice(["ab", "ba", "_aA", "zZ_b"])
            condition = drawn_condition(chance, letters)
            text = condition_text(letters, condition)
            self.assertEqual(text, " ".join([condition[0]] + [part or "-" for part in condition[1:]]) + "\n")
            self.assertEqual(read_condition(letters, text), condition)
            self.assertEqual(condition_or_row(letters, text), condition)
            seen.add((condition[0],) + tuple(part == "" for part in condition[1:]))
        self.assertEqual(len(seen), 10)

    def test_wrong_arguments(self):
        for wrong in NOT_LETTERS:
            caught(BadLetters, condition_text, wrong, ("equal", "a"))
            caught(BadLetters, condition_text, wrong, None)
        for wrong in NOT_CONDITIONS:
            caught(BadCondition, condition_text, "ab", wrong)
        caught(BadCondition, condition_text, "ab", ("equal", "-"))
        caught(BadCondition, condition_text, "ab", ("like", "-"))


class ReadConditionTest(unittest.TestCase):
    def hold(self, letters, text):
        """That a text is read as the document says, or refused with the row that it says."""
        due = condition_or_row(letters, text)
        if isinstance(due, int):
            self.assertEqual(caught(BadText, read_condition, letters, text).row, due, text)
        else:
            self.assertEqual(read_condition(letters, text), due, text)
            self.assertEqual(condition_text(letters, due), text)
        return due

    def wrong(self, text, row):
        self.assertEqual(caught(BadText, read_condition, "ab", text).row, row, text)
        self.assertEqual(condition_or_row("ab", text), row, text)

    def test_near_texts(self):
        rows = set()
        right = 0
        words = ["equal", "begins", "between", "like", "a", "-", "ab", "abab", "ababa", "?", "*", "", "c"]
        for condition in (
            ("equal", "ab"), ("equal", ""), ("begins", "abab"), ("between", "a", ""), ("between", "b", "abab"),
            ("like", "a?*b"), ("like", ""), ("like", "????"),
        ):
            text = condition_text("ab", condition)
            for other in list(near(text, SIGNS)) + list(near_words(text, words)):
                due = self.hold("ab", other)
                rows.add(due if isinstance(due, int) else None)
                right += other != text and not isinstance(due, int)
        self.assertEqual(rows, {None, 0, 1})
        self.assertGreater(right, 100)

    def test_all_short_lines(self):
        for word in ("equal", "begins", "like", "between", "", "state"):
            for first in texts("ab-?* ", 3):
                self.hold("ab", word + " " + first + "\n")
                self.hold("ab", word + " a " + first + "\n")

    def test_line_feeds(self):
        self.assertEqual(read_condition("ab", "equal ab\n"), ("equal", "ab"))
        self.wrong("", 0)
        self.wrong("\n", 0)
        self.wrong("equal ab", 0)
        self.wrong("\nequal ab\n", 0)
        self.wrong("equal ab\nx", 1)
        self.wrong("equal ab\n ", 1)
        self.wrong("equal ab\n\n", 1)
        self.wrong("equal ab\nequal ab\n", 1)
        self.wrong("equal ab\nequal ab", 1)
        self.wrong("equal ab\nx\n\n\n", 1)
        self.wrong("equal c\nequal ab\nx", 0)
        self.wrong("equal ab\r\n", 0)
        self.wrong("equal ab\r", 0)

    def test_lines(self):
        for line in (
            "Equal ab", "EQUAL ab", "equals ab", "equal", "equal ", "equal  ab", " equal ab", "equal ab ", "equal\tab",
            "equal ab b", "equal - -", "equal --", "equal a-", "equal -a", "equal ababa", "equal c", "equal ?",
            "equal *", "between ab", "between a b a", "between a", "between - ", "between  a b", "between a  b",
            "between ababa -", "between - ababa", "between a -b", "between a ?", "like a b", "like *****", "like a-",
            "like -*", "like c", "like", "like ", "begins ?", "begins - ab", "ab", "-", "- a", "letters ab",
            "state 0a 0b", "equal a\u00e4", "",
        ):
            self.wrong(line + "\n", 0)
            self.wrong(line + "\nequal ab\n", 0)
            self.wrong(line, 0)

    def test_letters_of_the_condition(self):
        self.assertEqual(read_condition("_A", "like _A?*\n"), ("like", "_A?*"))
        self.assertEqual(caught(BadText, read_condition, "_A", "like a\n").row, 0)
        for letters in permutations("abc", 2):
            due = condition_or_row("".join(letters), "between a ab\n")
            self.assertEqual(due == 0, "c" in letters)
            self.hold("".join(letters), "between a ab\n")

    def test_what_is_no_text(self):
        for wrong in NOT_TEXTS + [b"equal ab\n", ["equal ab\n"]]:
            self.assertEqual(caught(BadText, read_condition, "ab", wrong).row, 0)

    def test_letters_come_first(self):
        for wrong in NOT_LETTERS:
            caught(BadLetters, read_condition, wrong, "equal a\n")
            caught(BadLetters, read_condition, wrong, "x")
            caught(BadLetters, read_condition, wrong, None)

    def test_kinds_of_values(self):
        for text in ("equal -\n", "between a b\n", "like ?*\n"):
            found = read_condition("ab", text)
            self.assertIs(found.__class__, tuple)
            self.assertEqual({part.__class__ for part in found}, {str})


if __name__ == "__main__":
    unittest.main()
