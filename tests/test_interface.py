"""Names, arguments and places of the interface."""

import inspect
import unittest

from foldlook import (
    choices, conditions, cutting, desks, doubts, exchanges, finding, joining, looks, machines, orders, serving, texts,
)
from interface import ANSWERS, DESK, FUNCTIONS


class InterfaceTest(unittest.TestCase):
    def test_functions_stand_in_their_files_with_their_arguments(self):
        for module, functions in FUNCTIONS.items():
            for name, arguments in functions.items():
                found = vars(module)[name]
                self.assertTrue(inspect.isfunction(found), name)
                self.assertEqual(found.__module__, module.__name__)
                self.assertEqual(list(inspect.signature(found).parameters), arguments)

    def test_functions_take_their_arguments_by_name(self):
        whole = machines.plain(letters="ab")
        self.assertEqual(machines.behind(one=whole, other=whole), whole)
        self.assertEqual(machines.mapped(letters="ab", outs=("a", "b")), whole)
        self.assertEqual(len(machines.cut(letters="ab", many=2)), 3)
        self.assertEqual(len(machines.stripped(letters="ab", some="a")), 2)
        self.assertEqual(len(machines.squeezed(letters="ab", some="a")), 3)
        self.assertEqual(machines.compare(letters="ab", one="a", other="b"), -1)
        self.assertEqual(machines.Machine(letters="ab", rows=whole.rows), whole)
        self.assertEqual(whole.made(value="ab"), "ab")
        self.assertEqual(whole.state_after(value="ab"), 0)
        self.assertTrue(conditions.is_condition(machine=whole, thing=("equal", "")))
        self.assertTrue(conditions.meets(machine=whole, condition=("equal", ""), value=""))
        self.assertEqual(conditions.stand(machine=whole, condition=("equal", ""), value=""), 0)

    def test_machine_has_its_methods_itself(self):
        own = vars(machines.Machine)
        self.assertEqual(machines.Machine.__module__, "foldlook.machines")
        self.assertEqual(list(inspect.signature(machines.Machine).parameters), ["letters", "rows"])
        for name in ("made", "state_after", "__len__", "__eq__"):
            self.assertTrue(inspect.isfunction(own[name]), name)
        for name in ("letters", "rows"):
            self.assertIsInstance(own[name], property)
        for name in ("made", "state_after"):
            self.assertEqual(list(inspect.signature(own[name]).parameters), ["self", "value"])

    def test_answers_stand_in_their_files_with_their_methods_themselves(self):
        for module, classes in ANSWERS.items():
            for name, (attributes, arguments) in classes.items():
                kind = vars(module)[name]
                self.assertEqual(kind.__module__, module.__name__)
                self.assertEqual(list(inspect.signature(kind).parameters), attributes)
                for method in ("__init__", "__eq__", "shows"):
                    self.assertTrue(inspect.isfunction(vars(kind)[method]), (name, method))
                self.assertEqual(list(inspect.signature(vars(kind)["shows"]).parameters), ["self"] + arguments)

    def test_answers_take_their_arguments_by_name(self):
        whole, condition = machines.plain("ab"), ("begins", "a")
        given = {"index": whole, "machine": whole}
        asked = {**given, "condition": condition}
        look = {**asked, "question": condition}
        self.assertTrue(looks.judge(**look).shows(**look))
        self.assertEqual(looks.shortest_unlike(**look), (None, None))
        self.assertEqual(looks.found_in(index=whole, question=condition, values=["b", "a"]), ["a"])
        self.assertTrue(serving.serve(**asked).shows(**asked))
        self.assertTrue(serving.can_serve(**asked))
        self.assertIsNone(serving.least_mixed(**asked))
        self.assertTrue(serving.tell(**given).shows(**given))
        self.assertTrue(serving.does_tell(**given))
        self.assertIsNone(serving.least_blurred(**given))
        self.assertTrue(orders.order(**given).shows(**given))
        self.assertTrue(orders.keeps_order(**given))
        self.assertTrue(doubts.doubts(**asked).shows(**asked))
        self.assertFalse(doubts.are_endless(**asked))
        self.assertFalse(doubts.is_doubtful(**asked, key="a"))
        self.assertEqual(doubts.count_doubtful(**asked, size=1), 0)

    def test_later_answers_take_their_arguments_by_name(self):
        whole, condition = machines.plain("ab"), ("begins", "a")
        given = {"elder": whole, "newer": whole, "questions": [condition]}
        self.assertTrue(exchanges.exchange(**given).shows(**given))
        self.assertIsNone(exchanges.shortest_rewrite(**given))
        self.assertFalse(exchanges.must_rewrite(**given, value="a"))
        self.assertEqual(exchanges.count_rewrites(**given, size=3), 0)
        given = {"offers": [(whole, 1)], "filters": [(whole, condition)]}
        self.assertEqual(choices.choices(offers=[(whole, 1)]), [(), (0,)])
        self.assertTrue(choices.cheapest(**given).shows(**given))
        self.assertEqual(choices.least_price(**given), 1)
        given = {"looks": [(whole, condition)], "way": "all", "machine": whole, "condition": condition}
        self.assertTrue(joining.combine(**given).shows(**given))
        self.assertTrue(joining.fits(**given))
        self.assertEqual(joining.shortest_apart(**given), (None, None))
        given = {"index": whole, "question": condition}
        self.assertTrue(finding.find(**given).shows(**given))
        self.assertFalse(finding.is_vain(**given))
        self.assertEqual(finding.shortest_hit(**given), 1)
        self.assertFalse(finding.finds_all(**given))
        given = {"machine": whole, "condition": condition}
        self.assertTrue(cutting.cut_for(**given).shows(**given))
        self.assertEqual(cutting.least_cut(**given), 1)

    def test_texts_take_their_arguments_by_name(self):
        text = texts.machine_text(machine=machines.plain("ab"))
        self.assertEqual(texts.read_machine(text=text), machines.plain("ab"))
        text = texts.condition_text(letters="ab", condition=("equal", ""))
        self.assertEqual(texts.read_condition(letters="ab", text=text), ("equal", ""))

    def test_desk_has_its_methods_itself(self):
        arguments, methods, properties = DESK
        own = vars(desks.Desk)
        self.assertEqual(desks.Desk.__module__, "foldlook.desks")
        self.assertEqual(list(inspect.signature(desks.Desk).parameters), arguments)
        for name, arguments in methods.items():
            self.assertTrue(inspect.isfunction(own[name]), name)
            self.assertEqual(list(inspect.signature(own[name]).parameters), ["self"] + arguments)
        for name in properties:
            self.assertIsInstance(own[name], property)

    def test_desk_takes_its_arguments_by_name(self):
        whole = machines.plain("ab")
        desk = desks.Desk(index=whole)
        self.assertEqual(desk.put(value="a"), 0)
        self.assertEqual(desk.renew(row=0), "a")
        self.assertEqual(desk.adopt(machine=whole), whole)
        self.assertEqual(desk.ask(question=("equal", "a")), [0])
        self.assertEqual(desk.take(row=0), "a")
        self.assertEqual(desk.attempt(work=len), 0)

    def test_kinds(self):
        self.assertEqual(conditions.KINDS, ("equal", "begins", "between", "like"))
        self.assertIsInstance(conditions.KINDS, tuple)


if __name__ == "__main__":
    unittest.main()
