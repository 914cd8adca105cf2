"""Wares, makes and needs told from other things, and stretches of makes."""

MOST_SIGNS = 8
LEAST_MAKE = 1
MOST_MAKE = 999


def is_ware(thing):
    """Tell whether a thing, of any kind, is a ware."""
    if not isinstance(thing, str) or not 1 <= len(thing) <= MOST_SIGNS:
        return False
    return all("a" <= sign <= "z" for sign in thing)


def is_make(thing):
    """Tell whether a thing, of any kind, is a make."""
    # For Python, True and False are integers; here they are no whole numbers.
    if not isinstance(thing, int) or isinstance(thing, bool):
        return False
    return within(thing, LEAST_MAKE, MOST_MAKE)


def is_need(thing):
    """Tell whether a thing, of any kind, is a need."""
    if not isinstance(thing, tuple) or len(thing) != 3:
        return False
    ware, low, high = thing
    return is_ware(ware) and is_make(low) and is_make(high) and low <= high


def joined(one, other):
    """Give the pair of what lies in both of two pairs (low, high), or None where nothing does."""
    low = max(one[0], other[0])
    high = min(one[1], other[1])
    if low > high:
        return None
    return (low, high)


def within(make, low, high):
    """Tell whether a make lies in the stretch from low to high, both with it."""
    return low <= make <= high
