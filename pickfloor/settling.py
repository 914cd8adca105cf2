"""Settling a wish: the best pick and what stands against each newer make, or why there is none."""

from pickfloor.picks import add_wares, check_wish
from pickfloor.reasons import granting, makes_left, shelves_of, wished


def settle(shop, wish):
    """Tell ("pick", pairs, against) of the best pick, or ("none", reason)."""
    check_wish(wish)
    told = _settled(shelves_of(shop), wished(wish), list(wish), 0)
    if told[0] == "none":
        return ("none", told[1])
    return told


# Wares are granted a make in the order of the agenda, and of each ware the newer makes are tried
# first: so the first pick that is found is the best one. What comes of a try is told by
# ("pick", pairs, against), of the wares from a place of the agenda on, or by
# ("none", reason, leant): leant is a dict, its keys the granted wares of which the reason has a
# source. With the other wares not granted the reason holds just as well.


def _settled(shelves, sources, added, at):
    """Settle from a place of the agenda on, with the needs that the last grant has added."""
    for need in added:
        asked = _asked_of(sources, need[0])
        if not makes_left(shelves, need[0], list(asked.values())):
            return _none(shelves, asked, need[0], {}, {})
    wares = []
    add_wares(wares, list(sources.values()))
    if at == len(wares):
        return ("pick", [], [])
    return _tried(shelves, sources, wares[at], at)


def _tried(shelves, sources, ware, at):
    """Try all makes of the ware at a place of the agenda, of which one at least is left."""
    asked = _asked_of(sources, ware)
    reasons = {}
    leant = {}
    for make in makes_left(shelves, ware, list(asked.values())):
        grown = granting(sources, shelves, ware, make)
        told = _settled(shelves, grown, shelves[ware][make], at + 1)
        if told[0] == "pick":
            against = _against(shelves, asked, ware, make, reasons)
            return ("pick", [(ware, make)] + told[1], [against] + told[2])
        if ware not in told[2]:
            # It stands against all makes of this ware alike: the others need not be tried.
            return told
        reasons[make] = told[1]
        leant.update(told[2])
    return _none(shelves, asked, ware, reasons, leant)


def _none(shelves, asked, ware, reasons, leant):
    """Tell a reason for that ware, with a reason for each make left, and on what all of it leans."""
    sources = _fewest(shelves, asked, ware)
    branches = [(make, reason) for make, reason in reasons.items()]
    wares = {other: True for other in leant if other != ware}
    for source in sources:
        if source[0] != "wish":
            wares[source[1]] = True
    return ("none", (ware, sources, branches), wares)


def _against(shelves, asked, ware, picked, reasons):
    """List the makes newer than the picked one, the newest ahead, each with its reason."""
    against = []
    for make in shelves[ware]:
        if make in reasons:
            against.append((make, reasons[make]))
        elif make > picked:
            against.append((make, _unasked(shelves, asked, ware, make)))
    return against


def _unasked(shelves, asked, ware, make):
    """Give the reason against a make that lies beyond the stretch of one of the sources."""
    grown = {source: asked[source] for source in asked}
    grown[("pick", ware, make)] = (ware, make, make)
    return (ware, _fewest(shelves, grown, ware), [])


def _asked_of(sources, ware):
    """Give those of the sources that are sources for that ware."""
    return {source: need for source, need in sources.items() if need[0] == ware}


def _fewest(shelves, asked, ware):
    """List as few of the sources for a ware as leave the same makes of it as all of them do."""
    left = makes_left(shelves, ware, list(asked.values()))
    kept = list(asked)
    # The later ones are dropped first: a reason that leans on earlier wares rules out more.
    for source in reversed(list(asked)):
        fewer = [other for other in kept if other != source]
        if fewer and makes_left(shelves, ware, [asked[other] for other in fewer]) == left:
            kept = fewer
    return kept
