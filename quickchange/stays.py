"""Between two standings: what may stay on, why the rest may not, and the way with the least trouble."""

from quickchange.rows import order_of
from quickchange.wearing import worn_in


def reason_against(wardrobe, wearing, goal, staying, garment):
    """Why the garment may not stay, as (place, under); None where it may."""
    for place in wardrobe.covers(garment):
        row = wearing[place]
        depth = row.index(garment)
        if row[:depth + 1] != goal[place][:depth + 1]:
            return (place, None)
        for under in row[:depth]:
            if under not in staying:
                return (place, under)
    return None


def staying_on(wardrobe, wearing, goal):
    """The garments that may stay on one player, who comes from a wearing to another."""
    staying = []
    # From within, so that of all that lies beneath a garment it is settled already whether it stays.
    for garment in order_of(wardrobe, wearing)[1]:
        if reason_against(wardrobe, wearing, goal, staying, garment) is None:
            staying.append(garment)
    return staying


def may_stay(wardrobe, one, other):
    """The pairs (player, garment) that may stay between two standings, sorted."""
    pairs = []
    for player, wearing in enumerate(one):
        for garment in staying_on(wardrobe, wearing, other[player]):
            pairs.append((player, garment))
    return sorted(pairs)


def reasons_why(wardrobe, one, other):
    """A reason (player, garment, place, under) for each pair of the first standing that may not stay."""
    reasons = []
    for player, wearing in enumerate(one):
        goal = other[player]
        staying = staying_on(wardrobe, wearing, goal)
        for garment in worn_in(wearing):
            reason = reason_against(wardrobe, wearing, goal, staying, garment)
            if reason is not None:
                reasons.append((player, garment) + reason)
    return reasons


def not_staying(wardrobe, standing, staying):
    """The pairs (player, garment) of a standing that may not stay, each player's from within."""
    pairs = []
    for player, wearing in enumerate(standing):
        for garment in order_of(wardrobe, wearing)[1]:
            if (player, garment) not in staying:
                pairs.append((player, garment))
    return pairs


def way_between(wardrobe, one, other):
    """The deeds that lead from one standing to the other: what may not stay comes off, then on."""
    staying = may_stay(wardrobe, one, other)
    deeds = []
    for player, garment in reversed(not_staying(wardrobe, one, staying)):
        deeds.append((player, "off", garment))
    for player, garment in not_staying(wardrobe, other, staying):
        deeds.append((player, "on", garment))
    return deeds


def price_of(prices, deed):
    """What a deed costs by the prices (ON, OFF) of its garment."""
    both = prices[deed[2]]
    return both[0] if deed[1] == "on" else both[1]


def trouble_of(prices, deeds):
    """The sum of the deeds' prices, whether they are let by or not."""
    return sum([price_of(prices, deed) for deed in deeds])


def least_trouble(wardrobe, prices, one, other):
    """The trouble of the told way, below which no way from one standing to the other comes."""
    return trouble_of(prices, way_between(wardrobe, one, other))
