"""What holds over the whole program ([1]): what is handed in, what is told, and what is new each time."""

import inspect
import unittest

import interface
from foldlook import (
    choices, conditions, cutting, doubts, exchanges, finding, joining, looks, machines, orders, serving, texts,
)
from foldlook.desks import Desk
from foldlook.machines import Machine, cut, mapped, plain, stripped

AB, SHORT, SMALL = plain("ab"), cut("ab", 2), mapped("ab", ("a", "a"))
BEGINS, EQUAL, LAST = ("begins", "a"), ("equal", "ab"), ("like", "*b")


def offers():
    return [(AB, 3), (SMALL, 1), (SHORT, 1)]


def filters():
    return [(AB, ("begins", "b")), (SMALL, ("equal", "a"))]


def pairs():
    return [(AB, BEGINS), (SHORT, ("like", "a*"))]


# For each function of the interface, what makes its arguments anew; several for those with several kinds of answers.
GIVEN = {
    machines.behind: [lambda: (SMALL, SHORT)],
    machines.plain: [lambda: ("ab",)],
    machines.mapped: [lambda: ("ab", ("a", ""))],
    machines.cut: [lambda: ("ab", 3)],
    machines.stripped: [lambda: ("ab", "a")],
    machines.squeezed: [lambda: ("ab", "a")],
    machines.compare: [lambda: ("ab", "a", "b")],
    conditions.is_condition: [lambda: (AB, BEGINS), lambda: (AB, ["begins", "a"]), lambda: (AB, {"begins": "a"})],
    conditions.meets: [lambda: (AB, BEGINS, "ab")],
    conditions.stand: [lambda: (AB, LAST, "ab")],
    looks.judge: [
        lambda: (AB, BEGINS, SHORT, BEGINS), lambda: (AB, ("begins", ""), SHORT, BEGINS),
        lambda: (AB, EQUAL, AB, BEGINS),
    ],
    looks.shortest_unlike: [lambda: (AB, EQUAL, SHORT, BEGINS)],
    looks.found_in: [lambda: (AB, BEGINS, ["a", "b", "ab"]), lambda: (AB, BEGINS, ())],
    serving.serve: [lambda: (SHORT, AB, BEGINS), lambda: (SHORT, AB, LAST)],
    serving.can_serve: [lambda: (SHORT, AB, BEGINS)],
    serving.least_mixed: [lambda: (SHORT, AB, LAST)],
    serving.tell: [lambda: (AB, SHORT), lambda: (SHORT, AB)],
    serving.does_tell: [lambda: (AB, SHORT)],
    serving.least_blurred: [lambda: (SHORT, AB)],
    orders.order: [lambda: (AB, SHORT), lambda: (SHORT, AB)],
    orders.keeps_order: [lambda: (AB, SHORT)],
    doubts.doubts: [lambda: (SMALL, AB, BEGINS), lambda: (SHORT, AB, EQUAL), lambda: (AB, AB, EQUAL)],
    doubts.are_endless: [lambda: (SMALL, AB, BEGINS)],
    doubts.is_doubtful: [lambda: (SMALL, AB, BEGINS, "a")],
    doubts.count_doubtful: [lambda: (SMALL, AB, BEGINS, 4)],
    exchanges.exchange: [lambda: (AB, SMALL, [("like", "?"), ("like", "*")]), lambda: (AB, SMALL, [BEGINS, EQUAL])],
    exchanges.shortest_rewrite: [lambda: (AB, SMALL, [BEGINS])],
    exchanges.must_rewrite: [lambda: (AB, SMALL, [BEGINS], "a")],
    exchanges.count_rewrites: [lambda: (AB, SMALL, [BEGINS], 5)],
    choices.choices: [lambda: (offers(),)],
    choices.cheapest: [lambda: (offers(), filters()), lambda: (offers()[1:], [(AB, LAST)])],
    choices.least_price: [lambda: (offers(), filters())],
    texts.machine_text: [lambda: (SHORT,)],
    texts.condition_text: [lambda: ("ab", EQUAL)],
    texts.read_machine: [lambda: ("letters ab\nstate 0a 0-\n",)],
    texts.read_condition: [lambda: ("ab", "between a -\n")],
    joining.combine: [
        lambda: (pairs(), "all", AB, BEGINS), lambda: (pairs(), "any", AB, EQUAL), lambda: (pairs(), "all", AB, LAST),
    ],
    joining.fits: [lambda: (pairs(), "all", AB, BEGINS)],
    joining.shortest_apart: [lambda: (pairs(), "any", AB, EQUAL)],
    finding.find: [lambda: (AB, BEGINS), lambda: (SHORT, ("equal", "aba"))],
    finding.is_vain: [lambda: (AB, BEGINS)],
    finding.shortest_hit: [lambda: (AB, BEGINS)],
    finding.finds_all: [lambda: (AB, BEGINS)],
    cutting.cut_for: [lambda: (AB, EQUAL), lambda: (AB, LAST)],
    cutting.least_cut: [lambda: (AB, EQUAL)],
}

CASES = [(call, make) for call, makers in GIVEN.items() for make in makers]


def seen(thing):
    """All that can be seen of something, as nested tuples; it stays as it is, whatever is done with the thing."""
    if isinstance(thing, (list, tuple)):
        return (thing.__class__, [seen(item) for item in thing])
    if isinstance(thing, dict):
        return (dict, [(seen(key), seen(worth)) for key, worth in thing.items()])
    if isinstance(thing, Machine):
        return (Machine, thing.letters, thing.rows)
    if isinstance(thing, Desk):
        return (Desk, seen([thing.present, thing.journal, thing.entries, thing.stale(), len(thing)]))
    if hasattr(thing, "shows"):
        return (thing.__class__, seen(vars(thing)))
    return (thing.__class__, thing)


def spoil(thing):
    """Change all that can be changed of something, and of what is in it."""
    if hasattr(thing, "shows"):
        for name, worth in list(vars(thing).items()):
            spoil(worth)
            setattr(thing, name, "spoilt")
    elif isinstance(thing, (list, tuple, dict)):
        for item in list(thing.values()) if isinstance(thing, dict) else thing:
            spoil(item)
        if not isinstance(thing, tuple):
            thing.clear()


def lists_in(thing):
    """The lists and dicts in something, and it itself if it is one."""
    found = [thing] if isinstance(thing, (list, dict)) else []
    parts = vars(thing) if hasattr(thing, "shows") else thing
    if isinstance(parts, dict):
        parts = list(parts.values())
    for part in parts if isinstance(parts, (list, tuple)) else []:
        found += lists_in(part)
    return found


class TablesTest(unittest.TestCase):
    def test_all_functions_are_there(self):
        named = {vars(module)[name] for module, found in interface.FUNCTIONS.items() for name in found}
        self.assertEqual(set(GIVEN), named)

    def test_all_classes_of_answers_are_told(self):
        named = {vars(module)[name] for module, found in interface.ANSWERS.items() for name in found}
        told = {call(*make()).__class__ for call, make in CASES}
        self.assertEqual({kind for kind in told if hasattr(kind, "shows")}, named)
        # There is nothing with a method shows beside them.
        for module in interface.FUNCTIONS:
            for thing in vars(module).values():
                if inspect.isclass(thing) and hasattr(thing, "shows"):
                    self.assertIn(thing, named)

    def test_arguments_are_plain(self):
        for module, functions in interface.FUNCTIONS.items():
            for name in functions:
                for found in inspect.signature(vars(module)[name]).parameters.values():
                    self.assertIs(found.kind, inspect.Parameter.POSITIONAL_OR_KEYWORD)
                    self.assertIs(found.default, inspect.Parameter.empty)


class HandedInTest(unittest.TestCase):
    def test_nothing_is_modified(self):
        for call, make in CASES:
            given = make()
            before = seen(given)
            answer = call(*given)
            self.assertEqual(seen(given), before, call)
            if hasattr(answer, "shows"):
                self.assertIs(answer.shows(*given), True)
                self.assertEqual(seen(given), before, call)

    def test_nothing_is_kept(self):
        for call, make in CASES:
            given = make()
            answer = call(*given)
            told = seen(answer)
            held = [id(thing) for thing in lists_in(answer)]
            self.assertFalse(any(id(thing) in held for thing in lists_in(given)), call)
            spoil(given)
            self.assertEqual(seen(answer), told, call)
            if hasattr(answer, "shows"):
                self.assertIs(answer.shows(*make()), True)
                self.assertEqual(seen(answer), told, call)

    def test_classes_keep_no_list_and_no_dict(self):
        for call, make in CASES:
            answer = call(*make())
            if hasattr(answer, "shows"):
                given = vars(call(*make()))
                again = answer.__class__(**given)
                self.assertEqual(again, answer)
                self.assertFalse({id(thing) for thing in lists_in(given)} & {id(thing) for thing in lists_in(again)})
                spoil(given)
                self.assertEqual(seen(again), seen(answer))
                self.assertIs(again.shows(*make()), True)

    def test_refused_arguments_are_not_modified(self):
        for call, arguments in (
            (exchanges.exchange, lambda: (AB, SMALL, [BEGINS, None])), (choices.choices, lambda: ([(AB, 1), [AB, 1]],)),
            (choices.cheapest, lambda: (offers(), [(AB, BEGINS), (AB, ["begins", "a"])])),
            (joining.combine, lambda: (pairs() + [[AB, BEGINS]], "all", AB, BEGINS)),
            (looks.found_in, lambda: (AB, BEGINS, ["a", ["b"]])), (texts.read_machine, lambda: (["letters ab\n"],)),
        ):
            given = arguments()
            before = seen(given)
            with self.assertRaises(ValueError):
                call(*given)
            self.assertEqual(seen(given), before)


class ToldTest(unittest.TestCase):
    def test_what_is_spoilt_is_told_anew_as_it_was(self):
        for call, make in CASES:
            given = make()
            answer = call(*given)
            told = seen(answer)
            spoil(answer)
            self.assertEqual(seen(call(*given)), told, call)
            self.assertEqual(seen(given), seen(make()), call)

    def test_all_is_new_each_time(self):
        for call, make in CASES:
            given = make()
            one, other = call(*given), call(*given)
            if hasattr(one, "shows"):
                self.assertIsNot(one, other)
                self.assertEqual(one, other)
            found = [id(thing) for thing in lists_in(one) + lists_in(other)]
            self.assertEqual(len(set(found)), len(found), call)

    def test_machines_never_change(self):
        for machine in (AB, SHORT, SMALL, stripped("ab", "a")):
            before = seen(machine)
            for call, make in CASES:
                call(*make())
            self.assertEqual(seen(machine), before)
            for name in ("letters", "rows"):
                with self.assertRaises(AttributeError):
                    setattr(machine, name, ())
            self.assertEqual(seen(machine), before)

    def test_lists_of_a_desk(self):
        desk = Desk(AB)
        desk.put("ab")
        desk.adopt(SMALL)
        desk.put("b")
        before = seen(desk)
        for tell in (
            lambda: desk.journal, lambda: desk.entries, desk.stale, lambda: desk.ask(("like", "*")),
            lambda: desk.branch().journal, lambda: desk.branch().entries,
            lambda: desk.attempt(lambda same: same.journal),
        ):
            told = tell()
            self.assertNotEqual(told, [])
            self.assertIsNot(told, tell())
            spoil(told)
            self.assertNotEqual(tell(), [])
            self.assertEqual(seen(desk), before)


class SameTwiceTest(unittest.TestCase):
    def test_calls_do_not_lean_on_earlier_ones(self):
        first = [seen(call(*make())) for call, make in CASES]
        again = [seen(call(*make())) for call, make in CASES[::-1]][::-1]
        self.assertEqual(first, again)

    def test_equal_machines_do_as_well_as_the_same_ones(self):
        def twin(thing):
            if isinstance(thing, Machine):
                return Machine(thing.letters, thing.rows)
            if isinstance(thing, (list, tuple)):
                return thing.__class__([twin(item) for item in thing])
            return thing

        for call, make in CASES:
            self.assertEqual(seen(call(*twin(make()))), seen(call(*make())), call)


if __name__ == "__main__":
    unittest.main()
