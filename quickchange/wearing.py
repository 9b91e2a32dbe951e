"""Wearings: for each place the row of the garments that lie there, from within."""

from quickchange.errors import Covered, NotWorn, Worn
from quickchange.wardrobe import check_garment


def bare_wearing(wardrobe):
    """The wearing in which nothing is worn."""
    return tuple([() for place in range(wardrobe.spots())])


def worn_in(wearing):
    """The garments that are worn, rising."""
    worn = []
    for row in wearing:
        worn.extend(row)
    return sorted(set(worn))


def put_on(wardrobe, wearing, garment):
    """The wearing with the garment over all others at its places."""
    check_garment(wardrobe, garment)
    if garment in worn_in(wearing):
        raise Worn(garment)
    rows = list(wearing)
    for place in wardrobe.covers(garment):
        rows[place] = rows[place] + (garment,)
    return tuple(rows)


def right_over(wardrobe, wearing, garment):
    """The garments that lie straight over this one, rising."""
    check_garment(wardrobe, garment)
    if garment not in worn_in(wearing):
        raise NotWorn(garment)
    over = []
    for place in wardrobe.covers(garment):
        row = wearing[place]
        outward = row.index(garment) + 1
        over.extend(row[outward:outward + 1])
    return sorted(set(over))


def take_off(wardrobe, wearing, garment):
    """The wearing without the garment, which has to be an outermost one."""
    over = right_over(wardrobe, wearing, garment)
    if len(over) > 0:
        raise Covered(garment, over[0])
    rows = list(wearing)
    for place in wardrobe.covers(garment):
        rows[place] = rows[place][:-1]
    return tuple(rows)


def outermost(wardrobe, wearing):
    """The garments that nothing lies over, rising."""
    return [garment for garment in worn_in(wearing) if len(right_over(wardrobe, wearing, garment)) == 0]


def seen_in(wearing):
    """For each place the garment seen there, the last one of its row, or None."""
    return [row[-1] if len(row) > 0 else None for row in wearing]


def dressed(wardrobe, order):
    """The wearing of an order: its garments put on one behind the other."""
    wearing = bare_wearing(wardrobe)
    for garment in order:
        wearing = put_on(wardrobe, wearing, garment)
    return wearing
