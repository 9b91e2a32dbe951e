"""Books: what is to be seen when, from which start, with how many hands; and wishes."""

from quickchange.plain import copied
from quickchange.wardrobe import Wardrobe
from quickchange.wearing import dressed, seen_in

MOST_DRESSERS = 6
MOST_BEATS = 12


def wardrobe_copy(wardrobe):
    """A wardrobe with the same places and garments."""
    return Wardrobe(wardrobe.spots(), [wardrobe.covers(garment) for garment in range(wardrobe.many())])


class Book:
    """A wardrobe, prices, the start, the numbers of dressers and beats, and the scenes (moment, wishes)."""

    def __init__(self, wardrobe, prices, start, dressers, beats, scenes):
        self.wardrobe = wardrobe_copy(wardrobe)
        self.prices = copied(prices)
        self.start = copied(start)
        self.dressers = dressers
        self.beats = beats
        self.scenes = copied(scenes)


def is_held(wardrobe, standing, wish):
    """True where the wish holds in the standing."""
    wearing = standing[wish[1]]
    if wish[0] == "stand":
        return wearing == dressed(wardrobe, wish[2])
    seen = seen_in(wearing)[wish[2]]
    if wish[0] == "bare":
        return seen is None
    return seen == wish[3]


def is_shown(wardrobe, standing, wishes):
    """True where all wishes hold in the standing."""
    return all([is_held(wardrobe, standing, wish) for wish in wishes])
