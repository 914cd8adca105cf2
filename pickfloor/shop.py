"""A shop: wares in numbered makes, each make with its needs."""

from pickfloor.errors import BadMake, BadNeed, BadWare, Full, NoMake, Twice
from pickfloor.stretches import is_make, is_need, is_ware

MOST_WARES = 12
MOST_MAKES = 8
MOST_NEEDS = 6


class Shop:
    """The makes that are there, and what each of them needs."""

    def __init__(self):
        # From each ware to a dict from its makes to their needs. A ware stands here only
        # while it has a make: so its place is free again once the last one is taken out.
        self._shelves = {}

    def put(self, ware, make, needs):
        """Put a make of a ware into the shop, with a list of its needs."""
        if not is_ware(ware):
            raise BadWare("no ware: it is a text of 1 to 8 signs a to z")
        if not is_make(make):
            raise BadMake("no make: it is a whole number from 1 to 999")
        if not _may_need(ware, needs):
            raise BadNeed("no needs: they are a list of up to 6, of unlike other wares")
        if self._has(ware, make):
            raise Twice("the shop has that make already")
        if not self._has_place(ware):
            raise Full("the shop has no place for that make")
        self._shelves.setdefault(ware, {})[make] = list(needs)

    def take(self, ware, make):
        """Take a make of a ware out of the shop."""
        if not self._has(ware, make):
            raise NoMake("the shop has no such make")
        shelf = self._shelves[ware]
        del shelf[make]
        if not shelf:
            del self._shelves[ware]

    def makes(self, ware):
        """List the makes of a ware, rising; none of a ware that the shop has not."""
        if not is_ware(ware):
            raise BadWare("no ware: it is a text of 1 to 8 signs a to z")
        return sorted(self._shelves.get(ware, {}))

    def needs(self, ware, make):
        """List the needs of a make, as they were put."""
        if not self._has(ware, make):
            raise NoMake("the shop has no such make")
        return list(self._shelves[ware][make])

    def wares(self):
        """List all wares of which the shop has a make, rising."""
        return sorted(self._shelves)

    def _has(self, ware, make):
        # What is no ware or no make is sorted out first: it may be a list, which is no key,
        # or True or 1.0, which as a key would find the make 1.
        return is_ware(ware) and is_make(make) and make in self._shelves.get(ware, {})

    def _has_place(self, ware):
        if ware in self._shelves:
            return len(self._shelves[ware]) < MOST_MAKES
        return len(self._shelves) < MOST_WARES


def _may_need(ware, thing):
    """Tell whether a thing, of any kind, is a list of needs that a make of the ware may have."""
    if type(thing) is not list or len(thing) > MOST_NEEDS:
        return False
    barred = [ware]
    for need in thing:
        if not is_need(need) or need[0] in barred:
            return False
        barred.append(need[0])
    return True
