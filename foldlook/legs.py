"""Legs: the states, perhaps with a stand, after a value, and the steps that letters take from them."""

from foldlook.conditions import first_stand, is_met, is_stand, next_stand
from foldlook.places import is_state


class Step:
    """What a letter does from a leg on: what it makes for the key and for the machine, and the next leg."""

    def __init__(self, letter, key, out, leg):
        self.letter = letter
        self.key = key
        self.out = out
        self.leg = leg


class FilterLegs:
    """The legs of an index and a filter: a state of each machine, and a stand of the condition."""

    def __init__(self, index, machine, condition):
        self.index = index
        self.machine = machine
        self.condition = condition
        # The steps from a leg are asked for again and again.
        self.known = {}

    def first(self):
        """The leg before a letter is read."""
        return (0, 0, first_stand(self.condition))

    def is_leg(self, thing):
        """Whether something is a leg, perhaps one that does not come about."""
        if not isinstance(thing, tuple) or len(thing) != 3:
            return False
        state, other, now = thing
        return is_state(self.index, state) and is_state(self.machine, other) and is_stand(self.condition, now)

    def lets_by(self, leg):
        """Whether the condition is met in a leg."""
        return is_met(self.condition, leg[2])

    def steps(self, leg):
        """The steps from a leg, one for each letter."""
        if leg not in self.known:
            self.known[leg] = [self.step(leg, letter) for letter in self.index.letters]
        return self.known[leg]

    def step(self, leg, letter):
        """The step of a letter from a leg."""
        state, other, now = leg
        state, key = self.index.turn(state, letter)
        other, out = self.machine.turn(other, letter)
        if out != "":
            now = next_stand(self.index.letters, self.condition, now, out)
        return Step(letter, key, out, (state, other, now))


class MachineLegs:
    """The legs of an index and a machine: a state of each."""

    def __init__(self, index, machine):
        self.index = index
        self.machine = machine

    def first(self):
        """The leg before a letter is read."""
        return (0, 0)

    def is_leg(self, thing):
        """Whether something is a leg, perhaps one that does not come about."""
        if not isinstance(thing, tuple) or len(thing) != 2:
            return False
        return is_state(self.index, thing[0]) and is_state(self.machine, thing[1])

    def steps(self, leg):
        """The steps from a leg, one for each letter."""
        return [self.step(leg, letter) for letter in self.index.letters]

    def step(self, leg, letter):
        """The step of a letter from a leg."""
        state, key = self.index.turn(leg[0], letter)
        other, out = self.machine.turn(leg[1], letter)
        return Step(letter, key, out, (state, other))
