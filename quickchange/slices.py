"""Slices: the standings that can be come to at each moment, with the least trouble."""

from quickchange.beats import beats_at
from quickchange.books import is_shown
from quickchange.errors import TooMany
from quickchange.standing import deeds_done
from quickchange.stays import trouble_of

MOST_STANDINGS = 300


def shows_scenes(book, moment, standing):
    """True where each scene of the moment is seen in the standing."""
    return all([is_shown(book.wardrobe, standing, wishes) for when, wishes in book.scenes if when == moment])


def shown_part(book, moment, layer):
    """The part of a layer in whose standings each scene of the moment is seen."""
    return dict([(standing, way) for standing, way in layer.items() if shows_scenes(book, moment, standing)])


def steps_from(book, standing):
    """Each standing that a beat leads to, as (standing, trouble, beat)."""
    steps = []
    for beat in beats_at(book.wardrobe, standing, book.dressers):
        steps.append((deeds_done(book.wardrobe, standing, beat), trouble_of(book.prices, beat), beat))
    return steps


def layer_behind(book, moment, layer, known):
    """What a beat leads to from a layer, the scenes of the moment that then comes not looked at."""
    reached = {}
    for ahead, way in layer.items():
        # The same standings come again at later moments; what a beat leads to from them stays the same.
        if ahead not in known:
            known[ahead] = steps_from(book, ahead)
        for standing, trouble, beat in known[ahead]:
            spent = way[0] + trouble
            if standing not in reached or spent < reached[standing][0]:
                reached[standing] = (spent, ahead, beat)
        if len(reached) > MOST_STANDINGS:
            raise TooMany(moment)
    return reached


def layers_from(book, moment, standing):
    """For each moment from this one on a layer: a dict of all standings that can be come to, each scene seen.

    It has for each of them a tuple: the least trouble, and the standing ahead and the beat by which it comes about.
    """
    known = {}
    layers = [shown_part(book, moment, {standing: (0, None, [])})]
    while moment < book.beats:
        moment = moment + 1
        layers.append(shown_part(book, moment, layer_behind(book, moment, layers[-1], known)))
    return layers


def slices_of(book):
    """For each moment from 0 on the sorted list of (standing, trouble) of all that can be come to."""
    slices = []
    for layer in layers_from(book, 0, book.start):
        slices.append(sorted([(standing, way[0]) for standing, way in layer.items()]))
    return slices
