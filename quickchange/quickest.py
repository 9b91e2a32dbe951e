"""The quickest change between two standings, and what has to wait for what in it."""

from quickchange.stays import way_between


def lies_over(wearing, upper, lower):
    """True where the upper garment lies anywhere outward of the lower one at some place."""
    for row in wearing:
        if upper in row and lower in row and row.index(upper) > row.index(lower):
            return True
    return False


def has_to_wait(wardrobe, one, other, ahead, behind):
    """True where between the standings the deed behind has to wait for the one ahead."""
    is_same_player = ahead[0] == behind[0]
    if ahead[1] == "off" and behind[1] == "off":
        return is_same_player and lies_over(one[ahead[0]], ahead[2], behind[2])
    if ahead[1] == "on" and behind[1] == "on":
        return is_same_player and lies_over(other[ahead[0]], behind[2], ahead[2])
    if ahead[1] == "on":
        return False
    return ahead[2] == behind[2] or (is_same_player and wardrobe.meet(ahead[2], behind[2]))


def waits_between(wardrobe, one, other):
    """All pairs of deeds, sorted, of which the second has to wait for the first."""
    deeds = way_between(wardrobe, one, other)
    waits = []
    for ahead in deeds:
        for behind in deeds:
            if has_to_wait(wardrobe, one, other, ahead, behind):
                waits.append((ahead, behind))
    return sorted(waits)


def longest_chains(deeds, waits):
    """For each deed a longest chain that ends with it, of deeds of which each has to wait for the one ahead."""
    chains = {}
    # The told way has each deed behind all that it has to wait for, so their chains are there.
    for deed in deeds:
        ahead = [chains[first] for first, second in waits if second == deed]
        chains[deed] = max(ahead, key=len, default=[]) + [deed]
    return chains


def quickest_change(wardrobe, one, other):
    """(BEATS, CHAIN): as few beats as can be, and as many deeds that have to wait for each other."""
    deeds = way_between(wardrobe, one, other)
    chains = longest_chains(deeds, waits_between(wardrobe, one, other))
    longest = max([chains[deed] for deed in deeds], key=len, default=[])
    beats = []
    for count in range(len(longest)):
        beats.append(sorted([deed for deed in deeds if len(chains[deed]) == count + 1]))
    return (beats, longest)
