"""Beats: deeds that are done at once."""

from quickchange.errors import Crossed
from quickchange.standing import deed_done, deeds_done, wearer
from quickchange.wearing import outermost


def are_crossed(wardrobe, one, other):
    """True where two deeds may not be done at once."""
    if one[2] == other[2]:
        return True
    return one[0] == other[0] and wardrobe.meet(one[2], other[2])


def check_crossed(wardrobe, beat):
    """Refuses the first two deeds that may not be done at once."""
    for first, one in enumerate(beat):
        for second, other in enumerate(beat):
            if first < second and are_crossed(wardrobe, one, other):
                raise Crossed(first, second)


def beat_done(wardrobe, standing, beat):
    """The standing that comes of a beat, each deed of which has to be let by alone."""
    for deed in beat:
        deed_done(wardrobe, standing, deed)
    check_crossed(wardrobe, beat)
    return deeds_done(wardrobe, standing, beat)


def deeds_at(wardrobe, standing):
    """All deeds that are let by at a standing, each alone."""
    free = [garment for garment in range(wardrobe.many()) if wearer(standing, garment) is None]
    deeds = []
    for player, wearing in enumerate(standing):
        for garment in outermost(wardrobe, wearing):
            deeds.append((player, "off", garment))
        for garment in free:
            deeds.append((player, "on", garment))
    return deeds


def longer_beats(wardrobe, beats, deeds):
    """The beats with one deed more than these, each of them sorted as these are."""
    longer = []
    for beat in beats:
        for deed in deeds:
            # Only deeds behind the last one are added, so that each beat comes about once, and sorted.
            is_behind = len(beat) == 0 or beat[-1] < deed
            if is_behind and not any([are_crossed(wardrobe, other, deed) for other in beat]):
                longer.append(beat + [deed])
    return longer


def beats_at(wardrobe, standing, most):
    """All beats of at most so many deeds that are let by at a standing, sorted."""
    deeds = deeds_at(wardrobe, standing)
    found = []
    beats = [[]]
    size = 0
    while size <= most and len(beats) > 0:
        found.extend(beats)
        beats = longer_beats(wardrobe, beats, deeds)
        size = size + 1
    return sorted(found)
