"""Rows of garments, place by place: an order whose wearing they are, or a ring that lets none be."""

from quickchange.errors import NoLook
from quickchange.plain import is_below
from quickchange.wearing import worn_in


def may_lie(wardrobe, place, thing):
    """True where the thing is a garment that covers the place."""
    return is_below(thing, wardrobe.many()) and place in wardrobe.covers(thing)


def check_things(wardrobe, rows):
    """Refuses the first thing that may not stand where it stands."""
    for place, row in enumerate(rows):
        for depth, thing in enumerate(row):
            if not may_lie(wardrobe, place, thing) or thing in row[:depth]:
                raise NoLook(place, thing)


def check_lacking(wardrobe, rows):
    """Refuses the least garment that lacks at one of its places."""
    for garment in worn_in(rows):
        for place in wardrobe.covers(garment):
            if garment not in rows[place]:
                raise NoLook(place, garment)


def still_under(wardrobe, rows, garment, left):
    """Those of the garments left that lie straight under this one, each with its place."""
    under = []
    for place in wardrobe.covers(garment):
        depth = rows[place].index(garment)
        if depth > 0 and rows[place][depth - 1] in left:
            under.append((rows[place][depth - 1], place))
    return under


def ring_among(wardrobe, rows, left):
    """A ring of garments left, where each of them lies straight over another one of them."""
    trail = []
    step = still_under(wardrobe, rows, left[0], left)[0]
    # The way inward never ends, and from each garment it goes on the same way: it comes round.
    while step not in trail:
        trail.append(step)
        step = still_under(wardrobe, rows, step[0], left)[0]
    return list(reversed(trail[trail.index(step):]))


def order_of(wardrobe, rows):
    """("order", ORDER) with the least garment next wherever several may come, or ("ring", RING)."""
    check_things(wardrobe, rows)
    check_lacking(wardrobe, rows)
    order = []
    left = worn_in(rows)
    while len(left) > 0:
        # What has come lies inmost in each row, so it is enough to look at what lies straight under.
        ready = [garment for garment in left if len(still_under(wardrobe, rows, garment, left)) == 0]
        if len(ready) == 0:
            return ("ring", ring_among(wardrobe, rows, left))
        order.append(ready[0])
        left.remove(ready[0])
    return ("order", order)
