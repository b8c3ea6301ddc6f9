"""Clouds: all legs after the values with one key."""

from foldlook.legs import FilterLegs
from foldlook.places import reach

MOST_CLOUDS = 200


class Clouds:
    """The clouds of the keys of an index, for a filter."""

    def __init__(self, index, machine, condition):
        self.index = index
        self.legs = FilterLegs(index, machine, condition)

    def first(self):
        """The cloud of the empty key."""
        return self.with_silent([self.legs.first()])

    def with_silent(self, some):
        """The cloud of some legs, and of those to which letters lead from them that make nothing for the key."""
        found = set(some)
        waiting = list(some)
        while waiting:
            leg = waiting.pop()
            for step in self.legs.steps(leg):
                if step.key == "" and step.leg not in found:
                    found.add(step.leg)
                    waiting.append(step.leg)
        return tuple(sorted(found))

    def behind(self, cloud, letter):
        """The cloud behind a cloud and a letter of the key."""
        return self.with_silent([step.leg for leg in cloud for step in self.legs.steps(leg) if step.key == letter])

    def all_behind(self, cloud):
        """Pairs of a letter and the cloud behind a cloud and it, of those that are not empty."""
        pairs = [(letter, self.behind(cloud, letter)) for letter in self.index.letters]
        return [(letter, there) for letter, there in pairs if there != ()]

    def about(self):
        """A dict from all clouds that come about and are not empty to a shortest key of each."""
        return reach(self.first(), lambda here: self.all_behind(here), MOST_CLOUDS)

    def of_key(self, key):
        """The cloud of a key."""
        cloud = self.first()
        for letter in key:
            cloud = self.behind(cloud, letter)
        return cloud

    def is_doubtful(self, cloud):
        """Whether the condition is met in one leg of a cloud, but not in another one."""
        met = [self.legs.lets_by(leg) for leg in cloud]
        return True in met and False in met

    def is_cloud(self, thing):
        """Whether something is an ascending tuple of legs, perhaps one that does not come about."""
        if not isinstance(thing, tuple) or not all([self.legs.is_leg(leg) for leg in thing]):
            return False
        return thing == tuple(sorted(set(thing)))


class CloudMap:
    """All clouds that come about and are not empty, that of the empty key first, by their places in a list."""

    def __init__(self, clouds):
        self.listed = list(clouds.about())
        places = {cloud: at for at, cloud in enumerate(self.listed)}
        # For each cloud, pairs of a letter and the place of the cloud behind it.
        self.ways = [[(letter, places[there]) for letter, there in clouds.all_behind(cloud)] for cloud in self.listed]
        self.doubtful = [clouds.is_doubtful(cloud) for cloud in self.listed]
