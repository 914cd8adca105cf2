"""Picks: their agenda, whether they meet a wish, and which of two is ahead."""

from pickfloor.errors import BadPick, BadWish
from pickfloor.stretches import is_make, is_need, is_ware, within

MOST_WISHES = 8


def agenda(shop, wish, pick):
    """List the wares that the wish and the picked makes ask for, each where it came first."""
    check_wish(wish)
    _check_pick(shop, pick)
    return _agenda_of(shop, wish, pick)


def meets(shop, wish, pick):
    """Tell whether a pick meets a wish: with just the wares of its agenda, and all needs met."""
    check_wish(wish)
    _check_pick(shop, pick)
    return _meets(shop, wish, pick)


def newer(shop, wish, one, other):
    """Tell whether the one of two picks that meet a wish is ahead of the other one."""
    check_wish(wish)
    for pick in (one, other):
        _check_pick(shop, pick)
        if not _meets(shop, wish, pick):
            raise BadPick("a pick that does not meet the wish")
    # Up to where they part both agendas are alike, so that one of them will do.
    for ware in _agenda_of(shop, wish, one):
        if one[ware] != other[ware]:
            return one[ware] > other[ware]
    return False


def check_wish(thing):
    """Refuse a thing, of any kind, that is no wish."""
    if type(thing) is not list or len(thing) > MOST_WISHES:
        raise BadWish("no wish: it is a list of up to 8 needs")
    for need in thing:
        if not is_need(need):
            raise BadWish("no wish: one of its needs is none")


def has_make(shop, ware, make):
    """Tell whether the shop has that make of that ware, each of them a thing of any kind."""
    return is_ware(ware) and is_make(make) and make in shop.makes(ware)


def add_wares(wares, needs):
    """Put the wares of the needs behind the wares, each unless it stands there already."""
    for need in needs:
        if need[0] not in wares:
            wares.append(need[0])


def _check_pick(shop, thing):
    if type(thing) is not dict:
        raise BadPick("no pick: it is a dict from wares to makes")
    for ware, make in thing.items():
        if not has_make(shop, ware, make):
            raise BadPick("no pick: it has a make that the shop has not")


def _agenda_of(shop, wish, pick):
    wares = []
    add_wares(wares, wish)
    at = 0
    while at < len(wares):
        ware = wares[at]
        if ware in pick:
            add_wares(wares, shop.needs(ware, pick[ware]))
        at += 1
    return wares


def _meets(shop, wish, pick):
    if sorted(pick) != sorted(_agenda_of(shop, wish, pick)):
        return False
    needs = list(wish)
    for ware, make in pick.items():
        needs.extend(shop.needs(ware, make))
    # Each of these wares is on the agenda, so it is picked.
    return all(within(pick[ware], low, high) for ware, low, high in needs)
