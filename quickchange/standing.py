"""Standings: a wearing for each player, and the deeds that change them."""

from quickchange.errors import NoDeed, Worn
from quickchange.plain import is_below
from quickchange.wardrobe import check_garment
from quickchange.wearing import bare_wearing, put_on, take_off, worn_in

WORDS = ("on", "off")


def all_bare(wardrobe, players):
    """The standing in which no player wears anything."""
    return tuple([bare_wearing(wardrobe) for player in range(players)])


def wearer(standing, garment):
    """The player that wears the garment, or None."""
    for player, wearing in enumerate(standing):
        if garment in worn_in(wearing):
            return player
    return None


def check_free(wardrobe, standing, garment):
    """Refuses what is no garment, and what any player wears."""
    check_garment(wardrobe, garment)
    if wearer(standing, garment) is not None:
        raise Worn(garment)


def deed_done(wardrobe, standing, deed):
    """The standing that comes of a deed (player, WORD, garment)."""
    player = deed[0]
    word = deed[1]
    garment = deed[2]
    if not is_below(player, len(standing)) or word not in WORDS:
        raise NoDeed()
    wearings = list(standing)
    if word == "on":
        check_free(wardrobe, standing, garment)
        wearings[player] = put_on(wardrobe, standing[player], garment)
    else:
        wearings[player] = take_off(wardrobe, standing[player], garment)
    return tuple(wearings)


def deeds_done(wardrobe, standing, deeds):
    """The standing that comes of deeds that are done one behind the other."""
    for deed in deeds:
        standing = deed_done(wardrobe, standing, deed)
    return standing
