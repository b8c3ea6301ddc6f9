"""The errors: what is wrong with an argument, or cannot be done."""


class FoldError(ValueError):
    """Any error of this package."""


class BadLetters(FoldError):
    """Not letters."""


class BadMachine(FoldError):
    """Not a machine, or nothing that one can be made of.

    row is the index of the first wrong row, None if no row is to blame.
    """

    def __init__(self, row):
        super().__init__(f"not a machine (first wrong row: {row})")
        self.row = row


class BadValue(FoldError):
    """Not a value of the letters."""


class BadCondition(FoldError):
    """Not a condition of the letters."""


class Unlike(FoldError):
    """Machines that do not have the same letters."""


class TooLarge(FoldError):
    """More comes about than the package goes through."""


class BadSize(FoldError):
    """Not a size."""


class BadQuestions(FoldError):
    """Not questions; index is that of the first wrong one, None if no item is to blame."""

    def __init__(self, index):
        super().__init__(f"not questions (first wrong one: {index})")
        self.index = index


class BadOffers(FoldError):
    """Not offers; index is that of the first wrong one, None if no item is to blame."""

    def __init__(self, index):
        super().__init__(f"not offers (first wrong one: {index})")
        self.index = index


class BadFilters(FoldError):
    """Not filters; index is that of the first wrong one, None if no item is to blame."""

    def __init__(self, index):
        super().__init__(f"not filters (first wrong one: {index})")
        self.index = index


class NoRow(FoldError):
    """Not the number of a row that is there."""


class NothingDone(FoldError):
    """There is nothing that can be undone."""


class BadText(FoldError):
    """Not a text that can be read; row is the index of the first wrong line."""

    def __init__(self, row):
        super().__init__(f"not a text that can be read (first wrong line: {row})")
        self.row = row


class BadLooks(FoldError):
    """Not looks; index is that of the first wrong one, None if no item is to blame."""

    def __init__(self, index):
        super().__init__(f"not looks (first wrong one: {index})")
        self.index = index


class BadWay(FoldError):
    """Not one of the two ways in which looks are put together."""
