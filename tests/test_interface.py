"""Names, arguments and places of the interface."""

import inspect
import unittest

from foldlook import conditions, doubts, looks, machines, orders, serving

FUNCTIONS = {
    machines: {
        "behind": ["one", "other"],
        "plain": ["letters"],
        "mapped": ["letters", "outs"],
        "cut": ["letters", "many"],
        "stripped": ["letters", "some"],
        "squeezed": ["letters", "some"],
        "compare": ["letters", "one", "other"],
    },
    conditions: {
        "is_condition": ["machine", "thing"],
        "meets": ["machine", "condition", "value"],
        "stand": ["machine", "condition", "value"],
    },
    looks: {
        "judge": ["index", "question", "machine", "condition"],
        "shortest_unlike": ["index", "question", "machine", "condition"],
        "found_in": ["index", "question", "values"],
    },
    serving: {
        "serve": ["index", "machine", "condition"],
        "can_serve": ["index", "machine", "condition"],
        "least_mixed": ["index", "machine", "condition"],
        "tell": ["index", "machine"],
        "does_tell": ["index", "machine"],
        "least_blurred": ["index", "machine"],
    },
    orders: {
        "order": ["index", "machine"],
        "keeps_order": ["index", "machine"],
    },
    doubts: {
        "doubts": ["index", "machine", "condition"],
        "are_endless": ["index", "machine", "condition"],
        "is_doubtful": ["index", "machine", "condition", "key"],
        "count_doubtful": ["index", "machine", "condition", "size"],
    },
}

# The arguments of each class, and of its method shows.
ANSWERS = {
    looks: {
        "Exact": (["spots"], ["index", "question", "machine", "condition"]),
        "More": (["spots", "value"], ["index", "question", "machine", "condition"]),
        "Misses": (["value"], ["index", "question", "machine", "condition"]),
    },
    serving: {
        "Served": (["pairs"], ["index", "machine", "condition"]),
        "Mixed": (["one", "other"], ["index", "machine", "condition"]),
        "Tells": (["pairs"], ["index", "machine"]),
        "Blurs": (["one", "other"], ["index", "machine"]),
    },
    orders: {
        "Rises": (["pairs"], ["index", "machine"]),
        "Crosses": (["one", "other"], ["index", "machine"]),
    },
    doubts: {
        "Endless": (["head", "loop", "tail"], ["index", "machine", "condition"]),
        "Bounded": (["longest", "mixed", "bounds"], ["index", "machine", "condition"]),
    },
}


class InterfaceTest(unittest.TestCase):
    def test_functions_stand_in_their_files_with_their_arguments(self):
        for module, functions in FUNCTIONS.items():
            for name, arguments in functions.items():
                found = vars(module)[name]
                self.assertTrue(inspect.isfunction(found), name)
                self.assertEqual(found.__module__, module.__name__)
                self.assertEqual(list(inspect.signature(found).parameters), arguments)

    def test_functions_take_their_arguments_by_name(self):
        whole = machines.plain(letters="ab")
        self.assertEqual(machines.behind(one=whole, other=whole), whole)
        self.assertEqual(machines.mapped(letters="ab", outs=("a", "b")), whole)
        self.assertEqual(len(machines.cut(letters="ab", many=2)), 3)
        self.assertEqual(len(machines.stripped(letters="ab", some="a")), 2)
        self.assertEqual(len(machines.squeezed(letters="ab", some="a")), 3)
        self.assertEqual(machines.compare(letters="ab", one="a", other="b"), -1)
        self.assertEqual(machines.Machine(letters="ab", rows=whole.rows), whole)
        self.assertEqual(whole.made(value="ab"), "ab")
        self.assertEqual(whole.state_after(value="ab"), 0)
        self.assertTrue(conditions.is_condition(machine=whole, thing=("equal", "")))
        self.assertTrue(conditions.meets(machine=whole, condition=("equal", ""), value=""))
        self.assertEqual(conditions.stand(machine=whole, condition=("equal", ""), value=""), 0)

    def test_machine_has_its_methods_itself(self):
        own = vars(machines.Machine)
        self.assertEqual(machines.Machine.__module__, "foldlook.machines")
        self.assertEqual(list(inspect.signature(machines.Machine).parameters), ["letters", "rows"])
        for name in ("made", "state_after", "__len__", "__eq__"):
            self.assertTrue(inspect.isfunction(own[name]), name)
        for name in ("letters", "rows"):
            self.assertIsInstance(own[name], property)
        for name in ("made", "state_after"):
            self.assertEqual(list(inspect.signature(own[name]).parameters), ["self", "value"])

    def test_answers_stand_in_their_files_with_their_methods_themselves(self):
        for module, classes in ANSWERS.items():
            for name, (attributes, arguments) in classes.items():
                kind = vars(module)[name]
                self.assertEqual(kind.__module__, module.__name__)
                self.assertEqual(list(inspect.signature(kind).parameters), attributes)
                for method in ("__init__", "__eq__", "shows"):
                    self.assertTrue(inspect.isfunction(vars(kind)[method]), (name, method))
                self.assertEqual(list(inspect.signature(vars(kind)["shows"]).parameters), ["self"] + arguments)

    def test_answers_take_their_arguments_by_name(self):
        whole, condition = machines.plain("ab"), ("begins", "a")
        given = {"index": whole, "machine": whole}
        asked = {**given, "condition": condition}
        look = {**asked, "question": condition}
        self.assertTrue(looks.judge(**look).shows(**look))
        self.assertEqual(looks.shortest_unlike(**look), (None, None))
        self.assertEqual(looks.found_in(index=whole, question=condition, values=["b", "a"]), ["a"])
        self.assertTrue(serving.serve(**asked).shows(**asked))
        self.assertTrue(serving.can_serve(**asked))
        self.assertIsNone(serving.least_mixed(**asked))
        self.assertTrue(serving.tell(**given).shows(**given))
        self.assertTrue(serving.does_tell(**given))
        self.assertIsNone(serving.least_blurred(**given))
        self.assertTrue(orders.order(**given).shows(**given))
        self.assertTrue(orders.keeps_order(**given))
        self.assertTrue(doubts.doubts(**asked).shows(**asked))
        self.assertFalse(doubts.are_endless(**asked))
        self.assertFalse(doubts.is_doubtful(**asked, key="a"))
        self.assertEqual(doubts.count_doubtful(**asked, size=1), 0)

    def test_kinds(self):
        self.assertEqual(conditions.KINDS, ("equal", "begins", "between", "like"))
        self.assertIsInstance(conditions.KINDS, tuple)


if __name__ == "__main__":
    unittest.main()
