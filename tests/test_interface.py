"""Names, arguments and places of the interface."""

import inspect
import unittest

from foldlook import conditions, machines

FUNCTIONS = {
    machines: {
        "behind": ["one", "other"],
        "plain": ["letters"],
        "mapped": ["letters", "outs"],
        "cut": ["letters", "many"],
        "stripped": ["letters", "some"],
        "squeezed": ["letters", "some"],
        "compare": ["letters", "one", "other"],
    },
    conditions: {
        "is_condition": ["machine", "thing"],
        "meets": ["machine", "condition", "value"],
        "stand": ["machine", "condition", "value"],
    },
}


class InterfaceTest(unittest.TestCase):
    def test_functions_stand_in_their_files_with_their_arguments(self):
        for module, functions in FUNCTIONS.items():
            for name, arguments in functions.items():
                found = vars(module)[name]
                self.assertTrue(inspect.isfunction(found), name)
                self.assertEqual(found.__module__, module.__name__)
                self.assertEqual(list(inspect.signature(found).parameters), arguments)

    def test_functions_take_their_arguments_by_name(self):
        whole = machines.plain(letters="ab")
        self.assertEqual(machines.behind(one=whole, other=whole), whole)
        self.assertEqual(machines.mapped(letters="ab", outs=("a", "b")), whole)
        self.assertEqual(len(machines.cut(letters="ab", many=2)), 3)
        self.assertEqual(len(machines.stripped(letters="ab", some="a")), 2)
        self.assertEqual(len(machines.squeezed(letters="ab", some="a")), 3)
        self.assertEqual(machines.compare(letters="ab", one="a", other="b"), -1)
        self.assertEqual(machines.Machine(letters="ab", rows=whole.rows), whole)
        self.assertEqual(whole.made(value="ab"), "ab")
        self.assertEqual(whole.state_after(value="ab"), 0)
        self.assertTrue(conditions.is_condition(machine=whole, thing=("equal", "")))
        self.assertTrue(conditions.meets(machine=whole, condition=("equal", ""), value=""))
        self.assertEqual(conditions.stand(machine=whole, condition=("equal", ""), value=""), 0)

    def test_machine_has_its_methods_itself(self):
        own = vars(machines.Machine)
        self.assertEqual(machines.Machine.__module__, "foldlook.machines")
        self.assertEqual(list(inspect.signature(machines.Machine).parameters), ["letters", "rows"])
        for name in ("made", "state_after", "__len__", "__eq__"):
            self.assertTrue(inspect.isfunction(own[name]), name)
        for name in ("letters", "rows"):
            self.assertIsInstance(own[name], property)
        for name in ("made", "state_after"):
            self.assertEqual(list(inspect.signature(own[name]).parameters), ["self", "value"])

    def test_kinds(self):
        self.assertEqual(conditions.KINDS, ("equal", "begins", "between", "like"))
        self.assertIsInstance(conditions.KINDS, tuple)


if __name__ == "__main__":
    unittest.main()
