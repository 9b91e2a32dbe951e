"""Orders held against one another: whether they come to the same wearing."""

from quickchange.wearing import dressed


def exchanges_between(one, other):
    """The places of neighbours that are exchanged, in turn, to come from one order to the other."""
    exchanges = []
    present = list(one)
    for goal, garment in enumerate(other):
        # All that the other order has ahead of it stand ahead already, so it only passes garments that come
        # behind it there: each exchange sets one pair right, and none is made in vain.
        for place in range(present.index(garment) - 1, goal - 1, -1):
            exchanges.append(place)
        present.remove(garment)
        present.insert(goal, garment)
    return exchanges


def turned_pair(first, second):
    """Two garments that lie one way round in a row of the first wearing, and the other way round in the second."""
    for row, turned in zip(first, second):
        for ahead, behind in zip(row, turned):
            # Up to here both rows are the same, so each of the two comes later in the row of the other.
            if ahead != behind:
                return (ahead, behind)
    return None


def set_against(wardrobe, one, other):
    """("same", EXCHANGES), ("unlike", A, None) or ("unlike", A, B) for two orders."""
    first = dressed(wardrobe, one)
    second = dressed(wardrobe, other)
    if first == second:
        return ("same", exchanges_between(one, other))
    alone = sorted(set(one) ^ set(other))
    if len(alone) > 0:
        return ("unlike", alone[0], None)
    return ("unlike",) + turned_pair(first, second)
