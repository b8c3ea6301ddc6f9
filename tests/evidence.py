"""Which lists show an answer: what the tests of several kinds of answers have in common.

Lists have spots, or pairs of legs: nested tuples of a shape. A shape is a list of what may stand at a place, or a
tuple of shapes.
"""

import copy

import slow

# What stands at no place of a spot or a pair.
STRANGE = [None, True, False, -1, -3, 0, 1, 9, "", "0", "a", [], {}, (), (0,), (0, 0), object()]


def is_of(shape, thing):
    """Whether something is of a shape; True is not 1."""
    if isinstance(shape, tuple):
        if not isinstance(thing, tuple) or len(thing) != len(shape):
            return False
        return all(is_of(part, item) for part, item in zip(shape, thing))
    return any(thing == good and repr(thing) == repr(good) for good in shape)


def drawn_of(chance, shape):
    """Something of a shape."""
    if isinstance(shape, tuple):
        return tuple(drawn_of(chance, part) for part in shape)
    return chance.choice(shape)


def changed(thing):
    """What is near to nested tuples: with one of their parts changed, left out, doubled or of another kind."""
    others = STRANGE + [(thing,), [thing]]
    if isinstance(thing, tuple):
        others += [thing[1:], thing[:-1], thing + (0,), thing + thing[-1:], thing[::-1], list(thing)]
    elif isinstance(thing, int):
        others += [thing - 1, thing + 1, bool(thing), str(thing)]
    yield from others
    if isinstance(thing, tuple):
        for at, part in enumerate(thing):
            for other in changed(part):
                yield thing[:at] + (other,) + thing[at + 1:]


class Case:
    """Arguments and an answer to them, and what the document says of the list that the answer has."""

    def __init__(self, given, answer, name, shape, first, follow, holds):
        self.given = given
        self.answer = answer
        self.name = name
        self.shape = shape
        self.first = first
        self.follow = follow
        self.holds = holds

    def things(self):
        """The list that the answer has."""
        return getattr(self.answer, self.name)

    def shows(self, things):
        """What the answer says if it has another list."""
        other = copy.copy(self.answer)
        setattr(other, self.name, list(things))
        return other.shows(*self.given)

    def is_right(self, things):
        """Whether a list shows the answer, from the words of the document."""
        if not all(is_of(self.shape, thing) and self.holds(thing) for thing in things):
            return False
        return slow.is_closed(things, self.first, self.follow)


class ListsTest:
    """Tests of a class that has cases: some Cases of each class of answers, of few spots or pairs."""

    cases = ()
    # How many of the cases are tried with all that is near to a spot or a pair.
    few = 8

    def hold(self, case, things, right):
        self.assertIs(case.shows(things), right, (case.given, case.answer.__class__, things))

    def test_what_is_told(self):
        for case in self.cases:
            self.assertIs(case.things().__class__, list)
            self.assertTrue(case.is_right(case.things()), case.given)
            self.hold(case, case.things(), True)

    def test_in_any_order_and_more_than_once(self):
        for case in self.cases:
            self.hold(case, case.things()[::-1], True)
            self.hold(case, case.things() * 2, True)
            self.hold(case, case.things() + case.things()[:1], True)

    def test_one_left_out(self):
        for case in self.cases:
            things = case.things()
            self.hold(case, [], False)
            for at in range(len(things)):
                self.hold(case, things[:at] + things[at + 1:], case.is_right(things[:at] + things[at + 1:]))

    def test_the_first_one_left_out(self):
        alone = 0
        for case in self.cases:
            rest = [thing for thing in case.things() if thing != case.first]
            self.hold(case, rest, False)
            # Where no letter leads to it, the rest is closed.
            alone += rest != [] and slow.is_closed(rest, rest[0], case.follow)
        self.assertGreater(alone, 0)

    def test_some_that_do_not_come_about(self):
        seen = set()
        for case in self.cases:
            things = case.things()
            for _ in range(25):
                thing = drawn_of(self.chance, case.shape)
                for extra in ([thing], slow.closure([thing], case.follow)):
                    right = case.is_right(things + extra)
                    self.hold(case, things + extra, right)
                    self.hold(case, extra + things, right)
                    if not set(extra) <= set(things):
                        seen.add((case.answer.__class__, right))
        self.assertEqual(len(seen), 2 * len({case.answer.__class__ for case in self.cases}), seen)

    def test_a_part_changed(self):
        for case in self.cases[:self.few]:
            things = case.things()
            for at in sorted({0, len(things) // 2, len(things) - 1}):
                for thing in changed(things[at]):
                    # What is one after all is tried by the tests above.
                    if not is_of(case.shape, thing):
                        self.hold(case, things[:at] + [thing] + things[at + 1:], False)
                        self.hold(case, things + [thing], False)
                        self.hold(case, [thing] + things, False)
