"""Plans: rows of beats that go with a book, and one of them with the least trouble."""

from quickchange.beats import beat_done
from quickchange.errors import WardrobeError
from quickchange.slices import layers_from, shows_scenes


def standing_behind(book, standing, beat):
    """The standing that comes of a beat; None where it isn't let by or hands are lacking."""
    if len(beat) > book.dressers:
        return None
    try:
        return beat_done(book.wardrobe, standing, beat)
    except WardrobeError:
        return None


def goes_with(book, moment, standing, beats):
    """True where the row of beats goes with the book from this moment and standing on."""
    if len(beats) != max(book.beats - moment, 0) or not shows_scenes(book, moment, standing):
        return False
    for beat in beats:
        moment = moment + 1
        standing = standing_behind(book, standing, beat)
        if standing is None or not shows_scenes(book, moment, standing):
            return False
    return True


def beats_to(layers, standing):
    """The beats that lead through the layers to a standing of the last one with its least trouble."""
    beats = []
    for layer in reversed(layers[1:]):
        way = layer[standing]
        # A beat may come at several moments; each of them is told a list of its own.
        beats.append(list(way[2]))
        standing = way[1]
    return list(reversed(beats))


def plan_from(book, moment, standing):
    """("plan", TROUBLE, BEATS) from this moment and standing on, or ("none", MOMENT)."""
    layers = layers_from(book, moment, standing)
    for passed, layer in enumerate(layers):
        if len(layer) == 0:
            return ("none", moment + passed - 1)
    last = layers[-1]
    goal = min(list(last), key=lambda reached: last[reached][0])
    return ("plan", last[goal][0], beats_to(layers, goal))


def plan_of(book):
    """The plan of a book: that from moment 0 and its start on."""
    return plan_from(book, 0, book.start)
