"""Desks ([12]): rows with an index on them, of which all that is done can be undone."""

import random
import unittest

from foldlook.conditions import meets
from foldlook.desks import Desk
from foldlook.errors import BadCondition, BadMachine, BadValue, NoRow, NothingDone, Unlike
from foldlook.machines import Machine, cut, mapped, plain
from helper import (
    NOT_CONDITIONS, NOT_MACHINES, NOT_VALUES, caught, drawn_condition, drawn_machine, ready_machines, texts,
)

SMALL, WHOLE, SHORT = mapped("Aa", ("a", "a")), plain("Aa"), cut("Aa", 1)
AB = plain("ab")

NOT_ROWS = [-1, True, False, None, "0", "", (0,), [0], {}, object(), 10 ** 20]


class Model:
    """A desk as [12] tells it: after each thing that was done, all that is then, one tuple behind the other."""

    def __init__(self, index):
        # The machine, the triples of the rows, the number of the next one, the journal.
        self.all = [(index, (), 0, ())]
        self.fixed = 0

    def now(self):
        return self.all[-1]

    def do(self, deed):
        """Do what a deed of the journal says, and give what is returned."""
        index, rows, next_row, journal = self.now()
        word, worth = deed
        if word == "put":
            told = next_row
            rows, next_row = rows + ((next_row, worth, index.made(worth)),), next_row + 1
        elif word == "take":
            told = [value for row, value, _ in rows if row == worth][0]
            rows = tuple(entry for entry in rows if entry[0] != worth)
        elif word == "renew":
            told = [index.made(value) for row, value, _ in rows if row == worth][0]
            rows = tuple((row, value, told if row == worth else key) for row, value, key in rows)
        else:
            told, index = index, worth
        self.all.append((index, rows, next_row, journal + (deed,)))
        return told

    def undo(self):
        """Take the last thing back, and give it; None if it cannot be."""
        if len(self.all) - 1 == self.fixed:
            return None
        return self.all.pop()[3][-1]

    def branch(self):
        other = Model(self.now()[0])
        other.all = list(self.all)
        return other

    def ask(self, question):
        return [row for row, _, key in self.now()[1] if meets(plain(self.now()[0].letters), question, key)]

    def stale(self):
        return [row for row, value, key in self.now()[1] if key != self.now()[0].made(value)]


def do(desk, deed):
    """Do with a desk what a deed of the journal says."""
    word, worth = deed
    return {"put": desk.put, "take": desk.take, "renew": desk.renew, "adopt": desk.adopt}[word](worth)


def all_of(desk):
    """All that a desk tells."""
    return (desk.present, desk.entries, desk.journal, len(desk), desk.stale())


class DeskTest(unittest.TestCase):
    def same(self, desk, model):
        """That a desk tells what the model says."""
        index, rows, _, journal = model.now()
        self.assertEqual(desk.present, index)
        self.assertEqual(desk.entries, list(rows))
        self.assertEqual(desk.journal, list(journal))
        self.assertEqual(len(desk), len(rows))
        self.assertEqual(desk.stale(), model.stale())


class MethodsTest(DeskTest):
    def test_an_empty_desk(self):
        desk = Desk(WHOLE)
        self.assertEqual(all_of(desk), (WHOLE, [], [], 0, []))
        self.assertEqual(desk.ask(("begins", "")), [])
        caught(NothingDone, desk.undo)
        self.assertEqual(all_of(desk), (WHOLE, [], [], 0, []))

    def test_put(self):
        desk = Desk(SMALL)
        self.assertEqual([desk.put(value) for value in ("Aa", "", "Aa", "a")], [0, 1, 2, 3])
        self.assertEqual(desk.entries, [(0, "Aa", "aa"), (1, "", ""), (2, "Aa", "aa"), (3, "a", "a")])
        self.assertEqual(desk.journal, [("put", "Aa"), ("put", ""), ("put", "Aa"), ("put", "a")])
        self.assertEqual(len(desk), 4)

    def test_take(self):
        desk = Desk(SMALL)
        for value in ("Aa", "A", "a"):
            desk.put(value)
        self.assertEqual(desk.take(1), "A")
        self.assertEqual(desk.entries, [(0, "Aa", "aa"), (2, "a", "a")])
        self.assertEqual(len(desk), 2)
        self.assertEqual(desk.take(2), "a")
        # Numbers are not used again.
        self.assertEqual(desk.put("AA"), 3)
        self.assertEqual(desk.take(0), "Aa")
        self.assertEqual(desk.take(3), "AA")
        self.assertEqual(desk.put(""), 4)
        self.assertEqual(desk.entries, [(4, "", "")])
        done = [("take", 1), ("take", 2), ("put", "AA"), ("take", 0), ("take", 3), ("put", "")]
        self.assertEqual(desk.journal[3:], done)

    def test_a_number_is_used_again_if_its_put_is_undone(self):
        desk = Desk(WHOLE)
        desk.put("A")
        self.assertEqual(desk.put("a"), 1)
        self.assertEqual(desk.undo(), ("put", "a"))
        self.assertEqual(desk.put("Aa"), 1)
        # One that was taken out is not, even if it is the last one.
        desk.take(1)
        self.assertEqual(desk.put("A"), 2)
        self.assertEqual([desk.undo() for _ in range(3)], [("put", "A"), ("take", 1), ("put", "Aa")])
        self.assertEqual(desk.put("AA"), 1)
        self.assertEqual(desk.entries, [(0, "A", "A"), (1, "AA", "AA")])

    def test_renew_and_adopt(self):
        desk = Desk(WHOLE)
        desk.put("Aa")
        desk.put("aa")
        self.assertEqual(desk.adopt(SMALL), WHOLE)
        self.assertEqual(desk.present, SMALL)
        # All keys stay as they are.
        self.assertEqual(desk.entries, [(0, "Aa", "Aa"), (1, "aa", "aa")])
        self.assertEqual(desk.stale(), [0])
        self.assertEqual(desk.put("A"), 2)
        self.assertEqual(desk.entries[2], (2, "A", "a"))
        # Perhaps with the same key.
        self.assertEqual([desk.renew(1), desk.renew(0)], ["aa", "aa"])
        self.assertEqual(desk.entries, [(0, "Aa", "aa"), (1, "aa", "aa"), (2, "A", "a")])
        self.assertEqual(desk.stale(), [])
        self.assertEqual(desk.journal[2:], [("adopt", SMALL), ("put", "A"), ("renew", 1), ("renew", 0)])
        self.assertEqual(desk.adopt(WHOLE), SMALL)
        self.assertEqual(desk.stale(), [0, 2])

    def test_adopt_of_the_same_machine(self):
        desk = Desk(SMALL)
        desk.put("A")
        self.assertEqual(desk.adopt(SMALL), SMALL)
        self.assertEqual(desk.journal, [("put", "A"), ("adopt", SMALL)])
        self.assertEqual(desk.stale(), [])
        self.assertEqual(desk.undo(), ("adopt", SMALL))
        self.assertEqual(desk.journal, [("put", "A")])

    def test_ask(self):
        desk = Desk(WHOLE)
        for value in ("Aa", "a", "aa", "A"):
            desk.put(value)
        desk.adopt(SMALL)
        self.assertEqual(desk.ask(("begins", "a")), [1, 2])
        desk.renew(3)
        self.assertEqual(desk.ask(("begins", "a")), [1, 2, 3])
        self.assertEqual(desk.ask(("like", "?")), [1, 3])
        self.assertEqual(desk.ask(("between", "A", "Aa")), [0])
        self.assertEqual(desk.ask(("equal", "A")), [])
        desk.take(1)
        self.assertEqual(desk.ask(("like", "*")), [0, 2, 3])

    def test_undo_takes_back_each_thing(self):
        desk = Desk(WHOLE)
        desk.put("Aa")
        desk.adopt(SMALL)
        desk.renew(0)
        desk.take(0)
        self.assertEqual(all_of(desk)[1:4:2], ([], 0))
        self.assertEqual(desk.undo(), ("take", 0))
        self.assertEqual(desk.entries, [(0, "Aa", "aa")])
        self.assertEqual(desk.undo(), ("renew", 0))
        # The key is that of the elder machine again, and the row is stale.
        self.assertEqual((desk.entries, desk.stale()), ([(0, "Aa", "Aa")], [0]))
        self.assertEqual(desk.undo(), ("adopt", SMALL))
        self.assertEqual((desk.present, desk.stale()), (WHOLE, []))
        self.assertEqual(desk.undo(), ("put", "Aa"))
        self.assertEqual(all_of(desk), (WHOLE, [], [], 0, []))
        caught(NothingDone, desk.undo)

    def test_taken_rows_come_back_to_their_places(self):
        desk = Desk(WHOLE)
        for value in ("A", "a", "Aa"):
            desk.put(value)
        desk.take(0)
        desk.put("aA")
        desk.undo()
        desk.undo()
        self.assertEqual([row for row, _, _ in desk.entries], [0, 1, 2])
        self.assertEqual(desk.ask(("begins", "")), [0, 1, 2])
        desk.adopt(cut("Aa", 0))
        self.assertEqual(desk.stale(), [0, 1, 2])

    def test_kinds_of_values(self):
        desk = Desk(WHOLE)
        self.assertIs(desk.put("Aa").__class__, int)
        for told in (desk.entries, desk.journal, desk.stale(), desk.ask(("like", "*"))):
            self.assertIs(told.__class__, list)
        self.assertEqual([desk.entries[0].__class__, desk.journal[0].__class__], [tuple, tuple])
        self.assertIs(desk.present.__class__, Machine)
        self.assertIs(desk.adopt(SMALL).__class__, Machine)
        self.assertIs(desk.undo().__class__, tuple)
        self.assertIs(desk.branch().__class__, Desk)
        self.assertIs(len(desk).__class__, int)

    def test_long_values(self):
        desk = Desk(SMALL)
        desk.put("A" * 3000)
        self.assertEqual(desk.entries, [(0, "A" * 3000, "a" * 3000)])
        self.assertEqual(desk.ask(("like", "a*a")), [0])


def drawn_deed(chance, model, machines):
    """What can be done with a desk."""
    rows = [row for row, _, _ in model.now()[1]]
    word = chance.choice(["put", "put", "take", "renew", "renew", "adopt"]) if rows else chance.choice(["put", "adopt"])
    if word == "put":
        return (word, chance.choice(texts(machines[0].letters, 3)))
    return (word, chance.choice(machines if word == "adopt" else rows))


class DrawnTest(DeskTest):
    def test_against_a_model(self):
        chance = random.Random(12)
        words = {}
        for _ in range(60):
            letters = chance.choice(["ab", "Aa_"])
            machines = ready_machines(letters) + [drawn_machine(chance, letters, 6, 3) for _ in range(4)]
            first = chance.choice(machines)
            pairs = [(Desk(first), Model(first))]
            for _ in range(40):
                desk, model = chance.choice(pairs)
                self.step(chance, desk, model, machines, pairs, words)
                # Branches go on by themselves: nothing that is done with one is seen in another one.
                for one, other in pairs:
                    self.same(one, other)
                question = drawn_condition(chance, letters, 2)
                self.assertEqual(desk.ask(question), model.ask(question))
            for desk, model in pairs:
                while model.undo() is not None:
                    desk.undo()
                    self.same(desk, model)
                caught(NothingDone, desk.undo)
        self.assertEqual(len(words), 6)
        self.assertTrue(all(many > 60 for many in words.values()), words)

    def step(self, chance, desk, model, machines, pairs, words):
        if chance.randrange(4) == 0:
            told = model.undo()
            words["undo"] = words.get("undo", 0) + 1
            if told is None:
                caught(NothingDone, desk.undo)
            else:
                self.assertEqual(desk.undo(), told)
        elif chance.randrange(12) == 0:
            words["branch"] = words.get("branch", 0) + 1
            pairs.append((desk.branch(), model.branch()))
        else:
            deed = drawn_deed(chance, model, machines)
            words[deed[0]] = words.get(deed[0], 0) + 1
            self.assertEqual(do(desk, deed), model.do(deed))


class Stop(Exception):
    """An error of another kind."""


class Other(BaseException):
    """One that is not even an Exception."""


class AttemptTest(DeskTest):
    def setUp(self):
        self.desk = Desk(WHOLE)
        self.desk.put("Aa")
        self.desk.put("a")
        self.desk.adopt(SMALL)
        self.before = all_of(self.desk)

    def all_ways(self, desk):
        """Do one of each."""
        desk.put("AA")
        desk.take(1)
        desk.renew(0)
        desk.adopt(SHORT)

    def test_what_the_function_returns(self):
        for told in (None, 0, "told", [1], (), self.desk):
            self.assertIs(self.desk.attempt(lambda desk, told=told: told), told)
        self.assertEqual(all_of(self.desk), self.before)
        self.assertEqual(self.desk.attempt(lambda desk: desk.put("A")), 2)
        self.assertIs(self.desk.attempt(lambda desk: desk), self.desk)

    def test_what_was_done_stays_if_no_error_leaves(self):
        self.desk.attempt(self.all_ways)
        self.assertEqual(self.desk.entries, [(0, "Aa", "aa"), (2, "AA", "aa")])
        self.assertEqual(self.desk.present, SHORT)
        words = [word for word, _ in self.desk.journal]
        self.assertEqual(words, ["put", "put", "adopt", "put", "take", "renew", "adopt"])
        # After the attempt all can be undone, also what was done before it.
        for left in range(7, 0, -1):
            self.assertEqual(len(self.desk.journal), left)
            self.desk.undo()
        caught(NothingDone, self.desk.undo)

    def test_errors_of_each_kind(self):
        def broken(kind):
            def work(desk):
                self.all_ways(desk)
                raise kind("told")
            return work

        for kind in (Stop, ValueError, KeyError, NothingDone, BadValue, Other, KeyboardInterrupt, StopIteration):
            wrong = caught(kind, self.desk.attempt, broken(kind))
            self.assertEqual(wrong.args, ("told",))
            self.assertEqual(all_of(self.desk), self.before)
        # All goes on as if nothing had been done; the numbers, too.
        self.assertEqual(self.desk.put("A"), 2)
        self.assertEqual([self.desk.undo() for _ in range(4)][::3], [("put", "A"), ("put", "Aa")])

    def test_the_error_itself_is_passed_on(self):
        wrong = Stop("just this one")

        def work(desk):
            desk.put("A")
            raise wrong

        with self.assertRaises(Stop) as held:
            self.desk.attempt(work)
        self.assertIs(held.exception, wrong)

    def test_errors_that_the_desk_raises(self):
        for kind, call in (
            (BadValue, lambda desk: desk.put("b")), (NoRow, lambda desk: desk.take(9)),
            (NoRow, lambda desk: desk.renew(-1)), (BadMachine, lambda desk: desk.adopt(None)),
            (Unlike, lambda desk: desk.adopt(AB)), (BadCondition, lambda desk: desk.ask(None)),
        ):
            def work(desk, call=call):
                self.all_ways(desk)
                call(desk)

            caught(kind, self.desk.attempt, work)
            self.assertEqual(all_of(self.desk), self.before)

    def test_an_error_that_does_not_leave(self):
        def work(desk):
            desk.put("A")
            try:
                desk.put("b")
            except BadValue:
                desk.put("AA")
            return "done"

        self.assertEqual(self.desk.attempt(work), "done")
        self.assertEqual(self.desk.journal[3:], [("put", "A"), ("put", "AA")])

    def test_only_what_was_done_in_it_can_be_undone(self):
        def work(desk):
            caught(NothingDone, desk.undo)
            self.assertEqual(all_of(desk), self.before)
            desk.put("A")
            desk.take(0)
            self.assertEqual(desk.undo(), ("take", 0))
            self.assertEqual(desk.undo(), ("put", "A"))
            caught(NothingDone, desk.undo)
            self.assertEqual(all_of(desk), self.before)
            desk.renew(0)
            return len(desk.journal)

        self.assertEqual(self.desk.attempt(work), 4)
        self.assertEqual(self.desk.journal[3:], [("renew", 0)])
        self.assertEqual(self.desk.undo(), ("renew", 0))
        self.assertEqual(self.desk.undo(), ("adopt", SMALL))

    def test_undone_and_done_anew_ahead_of_an_error(self):
        def work(desk):
            desk.put("A")
            desk.undo()
            desk.take(1)
            raise Stop

        caught(Stop, self.desk.attempt, work)
        self.assertEqual(all_of(self.desk), self.before)

    def test_an_undo_that_is_refused_leaves_the_attempt(self):
        def work(desk):
            desk.put("A")
            desk.undo()
            desk.undo()

        caught(NothingDone, self.desk.attempt, work)
        self.assertEqual(all_of(self.desk), self.before)
        # Then, it is no attempt any more.
        self.assertEqual(self.desk.undo(), ("adopt", SMALL))

    def test_within_one_another(self):
        def inner(desk):
            caught(NothingDone, desk.undo)
            desk.put("AA")
            return desk.put("aA")

        def outer(desk):
            desk.put("A")
            self.assertEqual(desk.attempt(inner), 4)
            # What was done in the inner one was done in the outer one, too.
            self.assertEqual(desk.undo(), ("put", "aA"))
            self.assertEqual(desk.undo(), ("put", "AA"))
            self.assertEqual(desk.undo(), ("put", "A"))
            caught(NothingDone, desk.undo)
            desk.put("Aaa")
            return desk.attempt(inner)

        self.assertEqual(self.desk.attempt(outer), 4)
        self.assertEqual(self.desk.journal[3:], [("put", "Aaa"), ("put", "AA"), ("put", "aA")])
        self.assertEqual(self.desk.entries[2:], [(2, "Aaa", "aaa"), (3, "AA", "aa"), (4, "aA", "aa")])

    def test_an_inner_one_that_the_outer_function_catches(self):
        def inner(desk):
            self.all_ways(desk)
            raise Stop

        def outer(desk):
            desk.put("A")
            now = all_of(desk)
            caught(Stop, desk.attempt, inner)
            self.assertEqual(all_of(desk), now)
            self.assertEqual(desk.undo(), ("put", "A"))
            caught(NothingDone, desk.undo)
            return desk.put("aa")

        self.assertEqual(self.desk.attempt(outer), 2)
        self.assertEqual(self.desk.journal[3:], [("put", "aa")])

    def test_an_inner_one_that_is_done_is_taken_back_with_the_outer_one(self):
        def outer(desk):
            desk.put("A")
            desk.attempt(self.all_ways)
            raise Stop

        caught(Stop, self.desk.attempt, outer)
        self.assertEqual(all_of(self.desk), self.before)

    def test_an_error_through_all_of_them(self):
        def deep(desk, left):
            desk.put("A" * left)
            if left == 0:
                raise Stop
            desk.attempt(lambda same: deep(same, left - 1))

        caught(Stop, self.desk.attempt, lambda desk: deep(desk, 8))
        self.assertEqual(all_of(self.desk), self.before)
        self.assertEqual(self.desk.undo(), ("adopt", SMALL))

    def test_one_behind_another(self):
        self.desk.attempt(lambda desk: desk.put("A"))
        caught(Stop, self.desk.attempt, self.broken)
        self.desk.attempt(lambda desk: desk.put("aaa"))
        self.assertEqual(self.desk.journal[3:], [("put", "A"), ("put", "aaa")])
        self.assertEqual([row for row, _, _ in self.desk.entries], [0, 1, 2, 3])
        self.assertEqual(self.desk.undo(), ("put", "aaa"))

    def broken(self, desk):
        self.all_ways(desk)
        raise Stop

    def test_the_desk_by_another_name(self):
        # The function may use the desk that it is called with, or the same one from outside.
        def work(desk):
            self.assertIs(desk, self.desk)
            self.desk.put("A")
            desk.put("AA")
            self.assertEqual(self.desk.entries, desk.entries)
            self.assertEqual(self.desk.undo(), ("put", "AA"))
            raise Stop

        caught(Stop, self.desk.attempt, work)
        self.assertEqual(all_of(self.desk), self.before)

    def test_other_desks_stay_as_they_are(self):
        other = self.desk.branch()

        def work(desk):
            desk.put("A")
            other.put("AA")
            raise Stop

        caught(Stop, self.desk.attempt, work)
        self.assertEqual(all_of(self.desk), self.before)
        self.assertEqual(other.journal[3:], [("put", "AA")])

    def test_a_method_as_a_function(self):
        self.assertEqual(self.desk.attempt(Desk.stale), [0])
        self.assertEqual(self.desk.attempt(len), 2)
        caught(NothingDone, self.desk.attempt, Desk.undo)


class DrawnAttemptTest(DeskTest):
    def test_against_a_model(self):
        self.chance = random.Random(120)
        self.machines = ready_machines("ab")
        self.ends = {}
        for _ in range(120):
            self.desk, self.model = Desk(AB), Model(AB)
            for _ in range(8):
                self.some_steps(3)
        for deep in (0, 1, 2):
            for fails in (True, False):
                self.assertGreater(self.ends.get((deep, fails), 0), 20, self.ends)

    def some_steps(self, most):
        """Some things that are done, undone, and attempted."""
        for _ in range(self.chance.randint(1, 4)):
            self.assertIs(self.same(self.desk, self.model), None)
            kind = self.chance.randrange(6)
            if kind == 0 and most > 0:
                self.attempt(most - 1)
            elif kind == 1:
                told = self.model.undo()
                if told is None:
                    caught(NothingDone, self.desk.undo)
                else:
                    self.assertEqual(self.desk.undo(), told)
            else:
                deed = drawn_deed(self.chance, self.model, self.machines)
                self.assertEqual(do(self.desk, deed), self.model.do(deed))
        self.same(self.desk, self.model)

    def attempt(self, most):
        before, fixed = list(self.model.all), self.model.fixed
        self.model.fixed = len(before) - 1
        fails = self.chance.randrange(2) == 0
        self.ends[most, fails] = self.ends.get((most, fails), 0) + 1

        def work(desk):
            self.assertIs(desk, self.desk)
            self.some_steps(most)
            if fails:
                raise Stop
            return len(desk)

        if fails:
            caught(Stop, self.desk.attempt, work)
            self.model.all = before
        else:
            self.assertEqual(self.desk.attempt(work), len(self.model.now()[1]))
        self.model.fixed = fixed
        self.same(self.desk, self.model)


class BranchTest(DeskTest):
    def test_everything_is_the_same(self):
        desk = Desk(WHOLE)
        for value in ("Aa", "a", "A"):
            desk.put(value)
        desk.take(1)
        desk.adopt(SMALL)
        other = desk.branch()
        self.assertIsNot(other, desk)
        self.assertEqual(all_of(other), all_of(desk))
        # The next number, too.
        self.assertEqual((other.put("a"), desk.put("AA")), (3, 3))
        self.assertEqual((len(other), other.entries[-1], desk.entries[-1]), (3, (3, "a", "a"), (3, "AA", "aa")))

    def test_they_go_on_by_themselves(self):
        desk = Desk(WHOLE)
        desk.put("Aa")
        one, other = desk.branch(), desk.branch()
        third = one.branch()
        one.adopt(SMALL)
        one.renew(0)
        other.take(0)
        third.put("A")
        self.assertEqual(all_of(desk), (WHOLE, [(0, "Aa", "Aa")], [("put", "Aa")], 1, []))
        self.assertEqual((one.entries, one.present), ([(0, "Aa", "aa")], SMALL))
        self.assertEqual((other.entries, other.present), ([], WHOLE))
        self.assertEqual(third.entries, [(0, "Aa", "Aa"), (1, "A", "A")])
        self.assertEqual(third.journal, [("put", "Aa"), ("put", "A")])
        self.assertEqual([one.undo(), one.undo(), one.undo()], [("renew", 0), ("adopt", SMALL), ("put", "Aa")])
        caught(NothingDone, one.undo)
        self.assertEqual(desk.undo(), ("put", "Aa"))
        self.assertEqual((other.undo(), other.entries), (("take", 0), [(0, "Aa", "Aa")]))

    def test_a_branch_made_within_an_attempt(self):
        desk = Desk(WHOLE)
        desk.put("Aa")
        made = []

        def work(same):
            same.put("A")
            made.append(same.branch())
            caught(NothingDone, made[0].branch().attempt, Desk.undo)
            same.undo()
            caught(NothingDone, same.undo)
            raise Stop

        caught(Stop, desk.attempt, work)
        other = made[0]
        self.assertEqual(other.entries, [(0, "Aa", "Aa"), (1, "A", "A")])
        # All can be undone in it, also what was done before the attempt.
        self.assertEqual([other.undo(), other.undo()], [("put", "A"), ("put", "Aa")])
        caught(NothingDone, other.undo)
        self.assertEqual(desk.entries, [(0, "Aa", "Aa")])

    def test_a_branch_that_is_used_within_the_attempt(self):
        desk = Desk(WHOLE)
        desk.put("Aa")

        def work(same):
            other = same.branch()
            self.assertEqual(other.undo(), ("put", "Aa"))
            caught(NothingDone, other.undo)
            caught(NothingDone, same.undo)
            other.put("a")
            other.attempt(lambda third: third.put("A"))
            self.assertEqual(other.undo(), ("put", "A"))
            return other

        other = desk.attempt(work)
        self.assertEqual((desk.entries, other.entries), ([(0, "Aa", "Aa")], [(0, "a", "a")]))

    def test_an_attempt_with_a_branch(self):
        desk = Desk(WHOLE)
        desk.put("Aa")
        other = desk.branch()

        def work(same):
            self.assertIs(same, other)
            desk.undo()
            same.put("a")
            raise Stop

        caught(Stop, other.attempt, work)
        self.assertEqual((len(desk), len(other)), (0, 1))


class CopiesTest(DeskTest):
    def test_lists_that_are_told_are_new(self):
        desk = Desk(WHOLE)
        desk.put("Aa")
        desk.put("a")
        desk.adopt(SMALL)
        before = all_of(desk)
        for tell in (lambda: desk.entries, lambda: desk.journal, desk.stale, lambda: desk.ask(("like", "*"))):
            told = tell()
            self.assertIsNot(told, tell())
            told.clear()
            self.assertNotEqual(tell(), [])
            told = tell()
            told.append((9, "", ""))
            self.assertEqual(all_of(desk), before)
        self.assertEqual([desk.undo() for _ in range(3)], before[2][::-1])

    def test_spoilt_lists_in_a_branch_and_in_an_attempt(self):
        desk = Desk(WHOLE)
        desk.put("Aa")
        other = desk.branch()
        other.journal.clear()
        other.entries.clear()
        desk.attempt(lambda same: [same.journal.clear(), same.entries.clear()])
        self.assertEqual((desk.journal, other.journal), ([("put", "Aa")], [("put", "Aa")]))
        self.assertEqual((desk.entries, other.entries), ([(0, "Aa", "Aa")], [(0, "Aa", "Aa")]))


class RefusedTest(DeskTest):
    def setUp(self):
        self.desk = Desk(AB)
        for value in ("ab", "b", "a", ""):
            self.desk.put(value)
        self.desk.take(1)
        self.desk.adopt(mapped("ab", ("a", "a")))
        self.before = all_of(self.desk)

    def refuse(self, error, call, *given):
        wrong = caught(error, call, *given)
        self.assertEqual(all_of(self.desk), self.before)
        return wrong

    def test_rows_that_are_not_there(self):
        for wrong in NOT_ROWS + [1, 4, 5]:
            self.refuse(NoRow, self.desk.take, wrong)
            self.refuse(NoRow, self.desk.renew, wrong)
        self.assertEqual(self.desk.put("a"), 4)
        self.desk.undo()
        self.refuse(NoRow, self.desk.take, 4)
        self.refuse(NoRow, self.desk.renew, 4)

    def test_true_is_no_row(self):
        desk = Desk(AB)
        desk.put("a")
        desk.put("b")
        for wrong in (True, False):
            caught(NoRow, desk.take, wrong)
            caught(NoRow, desk.renew, wrong)
        self.assertEqual([desk.take(1), desk.take(0)], ["b", "a"])

    def test_what_is_no_value(self):
        for wrong in NOT_VALUES:
            self.refuse(BadValue, self.desk.put, wrong)
        self.assertEqual(self.desk.put(""), 4)

    def test_what_is_no_machine(self):
        for wrong in NOT_MACHINES:
            self.assertIsNone(caught(BadMachine, Desk, wrong).row)
            self.assertIsNone(self.refuse(BadMachine, self.desk.adopt, wrong).row)

    def test_other_letters(self):
        for letters in ("ba", "abc", "cd", "aB"):
            self.refuse(Unlike, self.desk.adopt, plain(letters))

    def test_what_is_no_condition(self):
        for wrong in NOT_CONDITIONS:
            self.refuse(BadCondition, self.desk.ask, wrong)
        # Also if there is no row to be asked for.
        for wrong in NOT_CONDITIONS:
            caught(BadCondition, Desk(AB).ask, wrong)

    def test_asking_and_telling_change_nothing(self):
        self.desk.ask(("like", "*"))
        self.desk.stale()
        self.desk.branch().put("a")
        self.desk.attempt(lambda desk: None)
        self.assertEqual(all_of(self.desk), self.before)

    def test_letters_stay(self):
        # Rows are of the letters of the desk, whichever machine is adopted.
        self.desk.adopt(cut("ab", 0))
        self.assertEqual(self.desk.put("abab"), 4)
        self.assertEqual(self.desk.entries[-1], (4, "abab", ""))
        caught(Unlike, self.desk.adopt, plain("ba"))
        caught(BadValue, self.desk.put, "c")


if __name__ == "__main__":
    unittest.main()
