"""What several tests use."""

from itertools import product

NOT_TEXTS = [None, 0, 1, True, False, b"", b"a", [], ["a"], (), ("a",), {}, {"a": 1}, {"a"}, object()]

NOT_LETTERS = NOT_TEXTS + [
    "", "a", "abcde", "ABCDEF", "aa", "aba", "abca", "abcc",
    "a1", "a ", "a-", "a?", "a*", "a.", "ab\n", "a\u00e4", "\u00c4b", "a\u0430", "a[", "a`", "a{", "@A", "a^",
]

NOT_MACHINES = [None, 0, True, "ab", ("ab", (((0, "a"), (0, "b")),)), [], (), {}, object()]


def texts(signs, most):
    """All texts of some signs with at most so many of them, the shorter ones first."""
    return ["".join(group) for many in range(most + 1) for group in product(signs, repeat=many)]


def caught(error, call, *arguments):
    """The error that a call raises, which is of just this class."""
    try:
        given = call(*arguments)
    except error as wrong:
        assert wrong.__class__ is error, (wrong.__class__, error, arguments)
        return wrong
    raise AssertionError(f"no {error.__name__} for {arguments!r}, but {given!r}")
