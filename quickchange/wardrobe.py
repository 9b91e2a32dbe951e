"""The wardrobe: the places of the body, and the garments that cover them."""

from quickchange.errors import NoGarment, TooMuch
from quickchange.plain import is_below, is_whole

MOST_PLACES = 6
MOST_GARMENTS = 6


def is_rising(numbers):
    """True where each number is above the one ahead of it."""
    return all([one < other for one, other in zip(numbers, numbers[1:])])


def are_places(told, spots):
    """True where `told` is a list of one or more of so many places, rising, each once."""
    if not isinstance(told, list) or len(told) == 0:
        return False
    # Whether they rise may be asked of numbers alone.
    return all([is_below(place, spots) for place in told]) and is_rising(told)


def check_garment(wardrobe, garment):
    """Refuses with NoGarment what is no garment of the wardrobe."""
    if not is_below(garment, wardrobe.many()):
        raise NoGarment(garment)


class Wardrobe:
    """So many places, and for each garment the list of those that it covers."""

    def __init__(self, places, covers):
        if not is_whole(places) or not 1 <= places <= MOST_PLACES:
            raise TooMuch()
        if len(covers) > MOST_GARMENTS:
            raise TooMuch()
        for garment, told in enumerate(covers):
            if not are_places(told, places):
                raise NoGarment(garment)
        self.place_count = places
        self.covered_places = [tuple(told) for told in covers]

    def spots(self):
        """The number of places."""
        return self.place_count

    def many(self):
        """The number of garments."""
        return len(self.covered_places)

    def covers(self, garment):
        """The list of the garment's places, rising."""
        check_garment(self, garment)
        return list(self.covered_places[garment])

    def meet(self, one, other):
        """True where both garments cover a place in common."""
        places = self.covers(one)
        return any([place in places for place in self.covers(other)])
