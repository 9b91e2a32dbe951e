"""The refusals: each a class of its own, all under WardrobeError."""

from quickchange.plain import copied


class WardrobeError(ValueError):
    """Any refusal."""


class TooMuch(WardrobeError):
    """More of something than there may be; in a prompt, with the row's number."""

    def __init__(self, row=None):
        WardrobeError.__init__(self, row)
        self.row = row


class NoGarment(WardrobeError):
    """What was told for a garment is none, whatever it may be."""

    def __init__(self, garment):
        # Anything may have been told, a list too, that its owner changes later.
        kept = copied(garment)
        WardrobeError.__init__(self, kept)
        self.garment = kept


class Worn(WardrobeError):
    """The garment is worn already."""

    def __init__(self, garment):
        WardrobeError.__init__(self, garment)
        self.garment = garment


class NotWorn(WardrobeError):
    """The garment is not worn."""

    def __init__(self, garment):
        WardrobeError.__init__(self, garment)
        self.garment = garment


class Covered(WardrobeError):
    """Something lies over the garment: `over`, the least that lies straight over it."""

    def __init__(self, garment, over):
        WardrobeError.__init__(self, garment, over)
        self.garment = garment
        self.over = over


class NoLook(WardrobeError):
    """Rows that no wearing could look like, for what stands or lacks at a place."""

    def __init__(self, place, garment):
        # Anything may stand in rows, a list too, that its owner changes later.
        kept = copied(garment)
        WardrobeError.__init__(self, place, kept)
        self.place = place
        self.garment = kept


class NoDeed(WardrobeError):
    """A deed of no player, or with another word than on and off."""


class Crossed(WardrobeError):
    """Two deeds of a beat, told by their places in it, that may not be done at once."""

    def __init__(self, first, second):
        WardrobeError.__init__(self, first, second)
        self.first = first
        self.second = second


class TooMany(WardrobeError):
    """Too many standings can be come to at a moment."""

    def __init__(self, moment):
        WardrobeError.__init__(self, moment)
        self.moment = moment


class NoRow(WardrobeError):
    """A row that has none of the forms."""

    def __init__(self, row):
        WardrobeError.__init__(self, row)
        self.row = row


class OutOfPlace(WardrobeError):
    """A row that may not stand where it stands."""

    def __init__(self, row):
        WardrobeError.__init__(self, row)
        self.row = row


class NoName(WardrobeError):
    """A name that stands already, or is none of the kind that is asked for."""

    def __init__(self, row, name):
        WardrobeError.__init__(self, row, name)
        self.row = row
        self.name = name


class Twice(WardrobeError):
    """A name that stands for the same thing a second time."""

    def __init__(self, row, name):
        WardrobeError.__init__(self, row, name)
        self.row = row
        self.name = name


class NoBeat(WardrobeError):
    """No beat is left."""


class NoHands(WardrobeError):
    """More deeds than dressers."""


class NotSeen(WardrobeError):
    """A scene of the moment that comes isn't seen."""
