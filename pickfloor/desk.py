"""A desk: lines that are said to a shop and a wish, each answered by a text."""

from pickfloor.errors import BadNeed, BadWish, Full, NoMake, Twice
from pickfloor.picks import check_wish
from pickfloor.settling import settle
from pickfloor.shop import Shop
from pickfloor.stretches import is_need, is_ware

DONE = "done"
NO_LINE = "no line"
MOST_FIGURES = 3


class Desk:
    """A shop and a wish that lines are said to."""

    def __init__(self):
        self._shop = Shop()
        self._wish = []

    def say(self, line):
        """Do what a line says, and answer it."""
        if type(line) is not str:
            return NO_LINE
        word, *rest = line.split(" ")
        if word == "put":
            return self._say_put(rest)
        if word == "take":
            return self._say_take(rest)
        if word == "wish":
            return self._say_wish(rest)
        if word == "why":
            return self._say_why(rest)
        if word == "forget" and not rest:
            self._wish = []
            return DONE
        if word == "settle" and not rest:
            return self._say_settle()
        return NO_LINE

    def held(self):
        """Give a shop with the makes that are there."""
        shop = Shop()
        for ware in self._shop.wares():
            for make in self._shop.makes(ware):
                shop.put(ware, make, self._shop.needs(ware, make))
        return shop

    def wishes(self):
        """List the needs of the wish."""
        return list(self._wish)

    def _say_put(self, words):
        make = _make_in(words[:2])
        needs = _needs_in(words[2:])
        if make is None or needs is None:
            return NO_LINE
        try:
            self._shop.put(make[0], make[1], needs)
        except BadNeed:
            return "bad need"
        except Twice:
            return "twice"
        except Full:
            return "full"
        return DONE

    def _say_take(self, words):
        make = _make_in(words)
        if make is None:
            return NO_LINE
        try:
            self._shop.take(make[0], make[1])
        except NoMake:
            return "no make"
        return DONE

    def _say_wish(self, words):
        needs = _needs_in(words)
        if needs is None or len(needs) != 1:
            return NO_LINE
        wish = self._wish + needs
        try:
            check_wish(wish)
        except BadWish:
            return "bad wish"
        self._wish = wish
        return DONE

    def _say_settle(self):
        told = settle(self._shop, self._wish)
        if told[0] == "none":
            return "none"
        return " ".join(["pick"] + [f"{ware} {make}" for ware, make in told[1]])

    def _say_why(self, words):
        if len(words) != 1 or not is_ware(words[0]):
            return NO_LINE
        told = settle(self._shop, self._wish)
        if told[0] == "pick":
            for pair, against in zip(told[1], told[2]):
                if pair[0] == words[0]:
                    return " ".join(["against"] + [str(newer[0]) for newer in against])
        return "no pick"


def _number_in(word):
    """Give the number that a word writes without a nought ahead, or None."""
    if not word.isascii() or not word.isdigit() or word.startswith("0"):
        return None
    # A word of very many figures is not read at all: Python refuses to.
    if len(word) > MOST_FIGURES:
        return None
    return int(word)


def _make_in(words):
    """Give the pair (ware, make) that the words write, or None."""
    if len(words) != 2 or not is_ware(words[0]):
        return None
    make = _number_in(words[1])
    if make is None:
        return None
    return (words[0], make)


def _needs_in(words):
    """List the needs that the words write, three words each, or give None."""
    if len(words) % 3 != 0:
        return None
    needs = []
    for at in range(0, len(words), 3):
        need = (words[at], _number_in(words[at + 1]), _number_in(words[at + 2]))
        if not is_need(need):
            return None
        needs.append(need)
    return needs
