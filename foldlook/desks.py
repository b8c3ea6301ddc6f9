"""Desks: rows with an index on them, of which all that is done can be undone."""

from foldlook.checks import check_value, is_whole
from foldlook.conditions import check_condition, meets
from foldlook.errors import NoRow, NothingDone
from foldlook.machines import check_machine, check_machines, plain


class Book:
    """What a desk holds: the machine of its index, its rows, and all that was done."""

    def __init__(self, index):
        self.index = index
        # For each row that is there, a pair of its value and its key.
        self.kept = {}
        # How many rows have come, which is also the number of the next one.
        self.come = 0
        # Pairs of what was done, as in the journal, and of what was there ahead of it.
        self.done = []

    def twin(self):
        """A book of its own in which everything is the same."""
        other = Book(self.index)
        other.kept = {row: self.kept[row] for row in self.kept}
        other.come = self.come
        other.done = list(self.done)
        return other


class Desk:
    """Rows, and an index on them that keeps what a machine made of their values."""

    def __init__(self, index):
        check_machine(index)
        self._book = Book(index)
        # How many of the things that were done cannot be undone now: those ahead of the attempt.
        self._fixed = 0

    def __len__(self):
        return len(self._book.kept)

    @property
    def present(self):
        """The machine of the index."""
        return self._book.index

    @property
    def journal(self):
        """All that was done, in order."""
        return [deed for deed, _ in self._book.done]

    @property
    def entries(self):
        """The number, the value and the key of each row that is there, ascending."""
        return [(row,) + self._book.kept[row] for row in sorted(self._book.kept)]

    def put(self, value):
        """Add a row, and give its number."""
        book = self._book
        check_value(book.index.letters, value)
        row = book.come
        book.kept[row] = (value, book.index.made(value))
        book.come = row + 1
        book.done.append((("put", value), None))
        return row

    def take(self, row):
        """Take a row out, and give its value."""
        book = self._book
        self._check_row(row)
        before = book.kept.pop(row)
        book.done.append((("take", row), before))
        return before[0]

    def renew(self, row):
        """Write a row anew, and give its key then."""
        book = self._book
        self._check_row(row)
        before = book.kept[row]
        key = book.index.made(before[0])
        book.kept[row] = (before[0], key)
        book.done.append((("renew", row), before))
        return key

    def adopt(self, machine):
        """Exchange the machine of the index, and give the elder one; all keys stay."""
        book = self._book
        elder = book.index
        check_machines(elder, machine)
        book.index = machine
        book.done.append((("adopt", machine), elder))
        return elder

    def ask(self, question):
        """The numbers of the rows whose keys meet a question, ascending."""
        letters = self._book.index.letters
        check_condition(letters, question)
        whole = plain(letters)
        return [row for row, _, key in self.entries if meets(whole, question, key)]

    def stale(self):
        """The numbers of the rows whose keys are not what the machine of the index makes of their values, ascending."""
        index = self._book.index
        return [row for row, value, key in self.entries if index.made(value) != key]

    def undo(self):
        """Take back what was done last, and give it, as in the journal."""
        book = self._book
        if len(book.done) == self._fixed:
            raise NothingDone("there is nothing to undo, or nothing in the attempt")
        deed, before = book.done.pop()
        word, worth = deed
        if word == "put":
            book.come = book.come - 1
            del book.kept[book.come]
        elif word == "adopt":
            book.index = before
        else:
            book.kept[worth] = before
        return deed

    def branch(self):
        """An independent desk in which everything is the same, in no attempt."""
        desk = Desk(self._book.index)
        desk._book = self._book.twin()
        return desk

    def attempt(self, work):
        """What a function gives that is called with the desk; if an error leaves it, all that it did is taken back."""
        before, fixed, finished = self._book, self._fixed, None
        try:
            self._book = before.twin()
            self._fixed = len(before.done)
            told = work(self)
            finished = True
        finally:
            self._fixed = fixed
            if finished is None:
                self._book = before
        return told

    def _check_row(self, row):
        """Raise NoRow for what is not the number of a row that is there."""
        if not is_whole(row) or row not in self._book.kept:
            raise NoRow("not the number of a row that is there")
