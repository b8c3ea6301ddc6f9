import unittest

from foldlook import errors

PLAIN = ["BadLetters", "BadValue", "BadCondition", "Unlike", "TooLarge", "BadSize", "NoRow", "NothingDone", "BadWay"]
WITH_ROW = ["BadMachine", "BadText"]
WITH_INDEX = ["BadQuestions", "BadOffers", "BadFilters", "BadLooks"]


def own(name):
    return vars(errors)[name]


class ErrorsTest(unittest.TestCase):
    def test_fold_error_is_a_value_error(self):
        self.assertEqual(errors.FoldError.__bases__, (ValueError,))

    def test_there_are_just_fifteen_and_all_are_direct(self):
        names = PLAIN + WITH_ROW + WITH_INDEX
        self.assertEqual(len(names), 15)
        self.assertEqual(sorted(found.__name__ for found in errors.FoldError.__subclasses__()), sorted(names))
        for name in names:
            self.assertEqual(own(name).__bases__, (errors.FoldError,))
            self.assertEqual(own(name).__module__, "foldlook.errors")

    def test_row(self):
        for name in WITH_ROW:
            for row in (None, 0, 3):
                self.assertEqual(own(name)(row).row, row)

    def test_index(self):
        for name in WITH_INDEX:
            for index in (None, 0, 3):
                self.assertEqual(own(name)(index).index, index)

    def test_messages(self):
        for name in PLAIN:
            self.assertEqual(str(own(name)("why")), "why")
        for name in WITH_ROW + WITH_INDEX:
            self.assertIn("wrong", str(own(name)(2)))
            self.assertIn("2", str(own(name)(2)))


if __name__ == "__main__":
    unittest.main()
