"""Spots: what letters lead to while several machines and conditions stand side by side, and lists of spots.

A walk tells, by its methods, which spot is the first one, to which ones letters lead, and what is a spot at all.
"""

from foldlook.looks import MOST_SPOTS
from foldlook.places import is_closed, reach


def spots_about(walk):
    """A dict from all spots that come about to a shortest value that leads to each."""
    return reach(walk.first(), lambda here: walk.all_behind(here), MOST_SPOTS)


def are_spots(walk, spots):
    """Whether a list has spots only, the first one, and with each all to which letters lead."""
    if not all([walk.is_spot(spot) for spot in spots]):
        return False
    return is_closed(spots, walk.first(), lambda here: spots_behind(walk, here))


def spots_behind(walk, spot):
    """The spots to which letters lead from a spot."""
    return [there for _, there in walk.all_behind(spot)]
