"""Reasons: steps that show that no pick with some granted pairs meets a wish."""

from pickfloor.errors import BadPick
from pickfloor.picks import check_wish, has_make
from pickfloor.stretches import LEAST_MAKE, MOST_MAKE, is_ware, joined, within


def holds(shop, wish, pairs, thing):
    """Tell whether a thing, of any kind, is a reason that holds with the pairs granted."""
    check_wish(wish)
    _check_pairs(shop, pairs)
    shelves = shelves_of(shop)
    sources = wished(wish)
    for ware, make in pairs:
        sources = granting(sources, shelves, ware, make)
    return _holds(shelves, sources, thing)


def shelves_of(shop):
    """Read a shop: from each ware to a dict from its makes, the newest ahead, to their needs."""
    shelves = {}
    for ware in shop.wares():
        makes = sorted(shop.makes(ware), reverse=True)
        shelves[ware] = {make: shop.needs(ware, make) for make in makes}
    return shelves


# The sources that there are stand in a dict from each of them to the need that it stands for:
# that of the wish, that of the granted make, or, for a pick, the need of just that make.


def wished(wish):
    """Give the sources that there are where nothing is granted."""
    return {("wish", place): need for place, need in enumerate(wish)}


def granting(sources, shelves, ware, make):
    """Give the sources that there are where (ware, make) is granted beside the others."""
    grown = {source: sources[source] for source in sources}
    grown[("pick", ware, make)] = (ware, make, make)
    for place, need in enumerate(shelves[ware][make]):
        grown[("need", ware, make, place)] = need
    return grown


def makes_left(shelves, ware, needs):
    """List the makes of a ware, the newest ahead, that lie in the stretches of all the needs."""
    both = (LEAST_MAKE, MOST_MAKE)
    for need in needs:
        both = joined(both, (need[1], need[2]))
        if both is None:
            return []
    low, high = both
    return [make for make in shelves.get(ware, {}) if within(make, low, high)]


def _check_pairs(shop, thing):
    if type(thing) is not list:
        raise BadPick("no granted pairs: they are a list")
    granted = []
    for pair in thing:
        if type(pair) is not tuple or len(pair) != 2 or not has_make(shop, pair[0], pair[1]):
            raise BadPick("no granted pairs: one is no pair of a make that the shop has")
        if pair[0] in granted:
            raise BadPick("no granted pairs: there is a ware twice")
        granted.append(pair[0])


def _holds(shelves, sources, thing):
    if type(thing) is not tuple or len(thing) != 3:
        return False
    ware, told, branches = thing
    if not is_ware(ware) or not _are_sources(sources, ware, told):
        return False
    left = makes_left(shelves, ware, [sources[source] for source in told])
    if left and _is_granted(sources, ware):
        return False
    if not _are_branches(branches, left):
        return False
    # It ends with any thing, even one that holds itself: each step down grants a further ware.
    for make, reason in branches:
        if not _holds(shelves, granting(sources, shelves, ware, make), reason):
            return False
    return True


def _are_sources(sources, ware, thing):
    """Tell whether a thing is a list of one source or more for that ware."""
    if type(thing) is not list or not thing:
        return False
    for source in thing:
        if not _may_be_source(source) or source not in sources or sources[source][0] != ware:
            return False
    return True


def _may_be_source(thing):
    # Only what is made of texts and whole numbers is looked up: other things may be no keys,
    # or, as True and 1.0 are, equal to a number without being one.
    return type(thing) is tuple and all(type(part) in (str, int) for part in thing)


def _is_granted(sources, ware):
    return any(source[0] == "pick" and source[1] == ware for source in sources)


def _are_branches(thing, left):
    """Tell whether a thing is a list of pairs of just the makes left, in their order, and things."""
    if type(thing) is not list or len(thing) != len(left):
        return False
    for branch, make in zip(thing, left):
        if type(branch) is not tuple or len(branch) != 2:
            return False
        if type(branch[0]) is not int or branch[0] != make:
            return False
    return True
