"""What the other files ask of plain values: whole numbers, and copies."""

# A list may hold itself; a copy that goes no deeper than this comes to an end all the same.
DEEPEST = 100


def is_whole(value):
    """True where `value` is a whole number; a truth is none."""
    return isinstance(value, int) and not isinstance(value, bool)


def is_below(value, bound):
    """True where `value` is a whole number from 0 on below `bound`."""
    return is_whole(value) and 0 <= value < bound


def copied(value, depth=0):
    """A copy of `value` that shares no list and no dict with it."""
    if depth == DEEPEST:
        return value
    if isinstance(value, list):
        return [copied(part, depth + 1) for part in value]
    if isinstance(value, tuple):
        return tuple([copied(part, depth + 1) for part in value])
    if isinstance(value, dict):
        return dict([(key, copied(part, depth + 1)) for key, part in value.items()])
    return value
