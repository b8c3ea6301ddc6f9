"""What several tests use."""

from itertools import product

from foldlook.conditions import KINDS
from foldlook.machines import Machine, cut, mapped, plain, squeezed, stripped

NOT_TEXTS = [None, 0, 1, True, False, b"", b"a", [], ["a"], (), ("a",), {}, {"a": 1}, {"a"}, object()]

NOT_LETTERS = NOT_TEXTS + [
    "", "a", "abcde", "ABCDEF", "aa", "aba", "abca", "abcc",
    "a1", "a ", "a-", "a?", "a*", "a.", "ab\n", "a\u00e4", "\u00c4b", "a\u0430", "a[", "a`", "a{", "@A", "a^",
]

NOT_MACHINES = [None, 0, True, "ab", ("ab", (((0, "a"), (0, "b")),)), [], (), {}, object()]

# No conditions on texts of the letters ab.
NOT_CONDITIONS = NOT_TEXTS + [
    "equal", ("equal",), ("equal", "a", "b"), ("between", "a"), ("like", None), ("begins", 0), ["equal", "a"],
    ("equal", "c"), ("equal", "ababa"), ("like", "*****"), ("like", "c"), ("begins", "?"), ("Equal", "a"),
    ("between", "a", "c"), ("between", True, "a"), ("equal", ["a"]),
]

# No values with the letters ab.
NOT_VALUES = NOT_TEXTS + ["c", "abc", "A", "a ", " ", "a\n", "?", "_"]

# No lists or tuples of something.
NOT_GROUPS = [
    None, 0, 1, True, "", "a", "ab", b"ab", {}, {0: ("equal", "a")}, {("equal", "a"): 1}, {"a"}, object(), range(1),
    iter([("equal", "a")]), [], (),
]


def texts(signs, most):
    """All texts of some signs with at most so many of them, the shorter ones first."""
    return ["".join(group) for many in range(most + 1) for group in product(signs, repeat=many)]


def caught(error, call, *arguments):
    """The error that a call raises, which is of just this class."""
    try:
        given = call(*arguments)
    except error as wrong:
        assert wrong.__class__ is error, (wrong.__class__, error, arguments)
        return wrong
    raise AssertionError(f"no {error.__name__} for {arguments!r}, but {given!r}")


def drawn_machine(chance, letters, most, silent):
    """A machine with up to so many states; of ten of its turns, silent ones make nothing."""
    many = chance.randint(1, most)

    def drawn_turn():
        out = "" if chance.randrange(10) < silent else chance.choice(letters)
        return (chance.randrange(many), out)

    return Machine(letters, tuple(tuple(drawn_turn() for _ in letters) for _ in range(many)))


def drawn_condition(chance, letters, most=4):
    """A condition with texts of at most so many signs."""

    def drawn(signs):
        return "".join(chance.choice(signs) for _ in range(chance.randint(0, most)))

    word = chance.choice(KINDS)
    if word == "between":
        return (word, drawn(letters), drawn(letters))
    return (word, drawn(letters + "?**" if word == "like" else letters))


def near_machine(chance, machine):
    """A machine that differs in one turn at most."""
    state, at = chance.randrange(len(machine)), chance.randrange(len(machine.letters))
    turn = (chance.randrange(len(machine)), chance.choice(["", *machine.letters]))
    rows = [list(row) for row in machine.rows]
    rows[state][at] = turn
    return Machine(machine.letters, tuple(tuple(row) for row in rows))


def ready_machines(letters):
    """Machines as [3] tells them, for letters."""
    first, last = letters[0], letters[-1]
    found = [plain(letters), mapped(letters, (last,) * len(letters)), mapped(letters, ("",) + tuple(letters[1:]))]
    found += [mapped(letters, ("",) * len(letters)), cut(letters, 0), cut(letters, 1), cut(letters, 2)]
    return found + [stripped(letters, first), squeezed(letters, last), squeezed(letters, letters)]


def ring(many, out):
    """A machine with so many states one behind another; each letter makes the same, None stands for itself."""
    rows = (((at + 1) % many, out) for at in range(many))
    return Machine("ab", tuple(tuple((at, sign if made is None else made) for sign in "ab") for at, made in rows))


def drawn_pair(chance, most=4):
    """An index and a machine, some of them of a kind that often tells."""
    letters = chance.choice(["ab", "ba", "abc", "_aAb"])
    ready = ready_machines(letters)
    drawn = [drawn_machine(chance, letters, most, chance.choice([0, 3, 6])) for _ in range(len(ready))]
    index = chance.choice(ready + drawn)
    return index, chance.choice(ready + drawn + [index] * len(ready))
