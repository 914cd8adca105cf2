"""Wares, makes and needs told from other things, and stretches of makes."""

MOST_SIGNS = 8
LEAST_MAKE = 1
MOST_MAKE = 999


def is_ware(thing):
    """Tell whether a thing, of any kind, is a ware."""
    # Things of derived classes are none, here and everywhere: they may answer anything, or fail,
    # when they are measured, compared or looked up. So True and False are no makes either.
    if type(thing) is not str or not 1 <= len(thing) <= MOST_SIGNS:
        return False
    return all("a" <= sign <= "z" for sign in thing)


def is_make(thing):
    """Tell whether a thing, of any kind, is a make."""
    return type(thing) is int and within(thing, LEAST_MAKE, MOST_MAKE)


def is_need(thing):
    """Tell whether a thing, of any kind, is a need."""
    if type(thing) is not tuple or len(thing) != 3:
        return False
    ware, low, high = thing
    return is_ware(ware) and is_make(low) and is_make(high) and low <= high


def joined(one, other):
    """Give the pair of what lies in both of two pairs (low, high), or None where nothing does."""
    low = max(one[0], other[0])
    high = min(one[1], other[1])
    if low > high:
        return None
    return (low, high)


def within(make, low, high):
    """Tell whether a make lies in the stretch from low to high, both with it."""
    return low <= make <= high
