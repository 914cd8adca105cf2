"""Promises 5 to 12 by their words, slowly, to compare the program with; and shops to try."""

import itertools
import random

from pickfloor.shop import Shop
from tests.things import ware_at


def agenda_of(shop, wish, pick):
    wares = []
    rows = [wish]
    while rows:
        for ware, _, _ in rows.pop(0):
            if ware not in wares:
                wares.append(ware)
                rows.append(shop.needs(ware, pick[ware]) if ware in pick else [])
    return wares


def is_met(shop, wish, pick):
    needs = wish + [need for ware, make in pick.items() for need in shop.needs(ware, make)]
    if set(pick) != set(agenda_of(shop, wish, pick)):
        return False
    return all(ware in pick and low <= pick[ware] <= high for ware, low, high in needs)


def is_ahead(shop, wish, one, other):
    for ware in agenda_of(shop, wish, one):
        if one[ware] != other[ware]:
            return one[ware] > other[ware]
    return False


def all_picks(shop):
    """Every pick of a shop, also those that meet nothing."""
    wares = shop.wares()
    for makes in itertools.product(*[[None] + shop.makes(ware) for ware in wares]):
        yield {ware: make for ware, make in zip(wares, makes) if make is not None}


def best_of(shop, wish, picks):
    """The one that is ahead of all the others, or None where there are no picks."""
    for pick in picks:
        if all(other == pick or is_ahead(shop, wish, pick, other) for other in picks):
            return pick
    assert not picks
    return None


def sources_of(shop, wish, granted):
    """Each source with the need that it stands for, of a dict of granted makes."""
    rows = {("wish", place): need for place, need in enumerate(wish)}
    for ware, make in granted.items():
        rows[("pick", ware, make)] = (ware, make, make)
        for place, need in enumerate(shop.needs(ware, make)):
            rows[("need", ware, make, place)] = need
    return rows


def makes_in(shop, ware, needs):
    return [make for make in reversed(shop.makes(ware))
            if all(low <= make <= high for _, low, high in needs)]


def stands(shop, wish, granted, reason):
    """Whether a reason, of the right kinds throughout, holds."""
    ware, sources, branches = reason
    rows = sources_of(shop, wish, granted)
    if not sources or any(source not in rows or rows[source][0] != ware for source in sources):
        return False
    left = makes_in(shop, ware, [rows[source] for source in sources])
    if [make for make, _ in branches] != left or (left and ware in granted):
        return False
    return all(stands(shop, wish, {**granted, ware: make}, deeper) for make, deeper in branches)


def steps_in(reason):
    """How many reasons a reason is made of, itself counted."""
    return 1 + sum(steps_in(deeper) for _, deeper in reason[2])


def tried_shop(chance, sizes, most_needs, most_width):
    """A shop in which the wares have so many makes, with needs by chance, and a wish."""
    wares = [ware_at(index) for index in range(len(sizes))]
    many = dict(zip(wares, sizes))
    many["nowhere"] = 2
    shop = Shop()

    def need_of(ware):
        low = chance.randint(1, many[ware])
        return (ware, low, min(many[ware], low + chance.randint(0, most_width)))

    for ware in wares:
        others = [other for other in wares if other != ware]
        if chance.random() < 0.1:
            others.append("nowhere")
        for make in range(1, many[ware] + 1):
            chosen = chance.sample(others, min(len(others), chance.randint(0, most_needs)))
            shop.put(ware, make, [need_of(other) for other in chosen])
    wish = [need_of(chance.choice(wares)) for _ in range(chance.randint(0, 3))]
    return shop, wish


def tried_shops(seed, many):
    """So many small shops with a wish each, the same ones each time."""
    chance = random.Random(seed)
    for _ in range(many):
        sizes = [chance.randint(1, 3) for _ in range(chance.randint(1, 4))]
        yield tried_shop(chance, sizes, chance.randint(0, 3), chance.randint(0, 2))
