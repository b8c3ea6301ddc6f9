"""Machines: what they make of values, the ready ones, one behind another one."""

from foldlook.checks import check_letters, check_value, is_value, is_whole
from foldlook.errors import BadMachine, TooLarge, Unlike

MOST_STATES = 6
MOST_KEPT = 5


class Machine:
    """Letters, and a row of turns for each state; it never changes."""

    def __init__(self, letters, rows):
        check_letters(letters)
        check_rows(letters, rows)
        self._letters = letters
        self._rows = rows

    def __eq__(self, other):
        return isinstance(other, Machine) and self._letters == other._letters and self._rows == other._rows

    def __len__(self):
        return len(self._rows)

    @property
    def letters(self):
        """The letters, in their order."""
        return self._letters

    @property
    def rows(self):
        """The rows, one for each state."""
        return self._rows

    def turn(self, state, letter):
        """The next state, and what is made, when a letter is read in a state."""
        return self._rows[state][self._letters.index(letter)]

    def made(self, value):
        """What the machine makes of a value."""
        return self._after(value)[1]

    def state_after(self, value):
        """The state after a value."""
        return self._after(value)[0]

    def _after(self, value):
        check_value(self._letters, value)
        state = 0
        outs = []
        for letter in value:
            state, out = self.turn(state, letter)
            outs.append(out)
        return state, "".join(outs)


def check_rows(letters, rows):
    """Raise BadMachine for what are not the rows of a machine with these letters."""
    if not isinstance(rows, tuple) or not 1 <= len(rows) <= MOST_STATES:
        raise BadMachine(None)
    for index, row in enumerate(rows):
        if not is_row(letters, len(rows), row):
            raise BadMachine(index)


def is_row(letters, many, row):
    """Whether something is a row of a machine with so many states."""
    if not isinstance(row, tuple) or len(row) != len(letters):
        return False
    return all([is_turn(letters, many, turn) for turn in row])


def is_turn(letters, many, turn):
    """Whether something is a turn of a machine with so many states."""
    if not isinstance(turn, tuple) or len(turn) != 2:
        return False
    state, out = turn
    if not is_whole(state) or not 0 <= state < many:
        return False
    return is_value(letters, out) and len(out) <= 1


def check_machine(machine):
    """Raise BadMachine for what is not a Machine."""
    if not isinstance(machine, Machine):
        raise BadMachine(None)


def check_machines(one, other):
    """Raise BadMachine for what is not a Machine, then Unlike if their letters are not the same."""
    check_machine(one)
    check_machine(other)
    if one.letters != other.letters:
        raise Unlike("the machines do not have the same letters")


def behind(one, other):
    """The machine of one machine behind which another one stands."""
    check_machines(one, other)
    pairs = [(0, 0)]
    rows = []
    while len(rows) < len(pairs):
        row = []
        for letter in one.letters:
            pair, out = joined_turn(one, other, pairs[len(rows)], letter)
            if pair not in pairs:
                pairs.append(pair)
            row.append((pairs.index(pair), out))
        rows.append(tuple(row))
    if len(rows) > MOST_STATES:
        raise TooLarge(f"more than {MOST_STATES} states")
    return Machine(one.letters, tuple(rows))


def joined_turn(one, other, pair, letter):
    """The next pair of states, and what the other machine makes, when the first one reads a letter."""
    first, second = pair
    first, handed = one.turn(first, letter)
    if handed == "":
        return (first, second), ""
    second, out = other.turn(second, handed)
    return (first, second), out


def copying_row(letters, state):
    """A row in which each letter makes itself and leads to one state."""
    return tuple([(state, letter) for letter in letters])


def plain(letters):
    """The machine in which each letter makes itself."""
    check_letters(letters)
    return Machine(letters, (copying_row(letters, 0),))


def mapped(letters, outs):
    """The machine in which each letter makes what is told for it."""
    check_letters(letters)
    if not isinstance(outs, tuple):
        raise BadMachine(None)
    return Machine(letters, (tuple([(0, out) for out in outs]),))


def cut(letters, many):
    """The machine that makes the first so many letters of a value."""
    check_letters(letters)
    if not is_whole(many) or not 0 <= many <= MOST_KEPT:
        raise BadMachine(None)
    rows = [copying_row(letters, state + 1) for state in range(many)]
    rows.append(((many, ""),) * len(letters))
    return Machine(letters, tuple(rows))


def stripped(letters, some):
    """The machine that leaves out some letters at the beginning."""
    check_letters(letters)
    check_value(letters, some)
    first = tuple([(0, "") if letter in some else (1, letter) for letter in letters])
    return Machine(letters, (first, copying_row(letters, 1)))


def squeezed(letters, some):
    """The machine that makes one of some letters that stand several times in a row."""
    check_letters(letters)
    check_value(letters, some)
    rows = [copying_turns(letters, "")]
    for last in letters:
        rows.append(copying_turns(letters, last if last in some else ""))
    return Machine(letters, tuple(rows))


def copying_turns(letters, silent):
    """A row of a squeezed machine: all letters but a silent one make themselves."""
    return tuple([(at + 1, "" if letter == silent else letter) for at, letter in enumerate(letters)])


def compare(letters, one, other):
    """-1 if one value comes ahead of another one, 0 if it is the same, 1 if it comes behind."""
    check_letters(letters)
    check_value(letters, one)
    check_value(letters, other)
    places = [letters.index(letter) for letter in one]
    others = [letters.index(letter) for letter in other]
    if places == others:
        return 0
    return -1 if places < others else 1
