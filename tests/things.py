"""Things of any kind, and what the tests of a shop share."""

import unittest

from pickfloor.errors import PickError
from pickfloor.shop import Shop


def fail(*rest):
    raise RuntimeError("asked")


class Alike:
    """Says that it is equal to anything, and cannot be a key."""

    __hash__ = None

    def __eq__(self, other):
        return True


class Unwilling:
    """Fails whatever it is asked."""

    __eq__ = __ne__ = __hash__ = __len__ = __bool__ = __iter__ = __getitem__ = fail
    __lt__ = __le__ = __gt__ = __ge__ = __contains__ = __int__ = __str__ = __repr__ = fail


class Text(str):
    """A text that is no plain one, equal to anything, and cannot be a key."""

    __hash__ = None

    def __eq__(self, other):
        return True


class Number(int):
    """A number that is no plain one and fails when it is compared."""

    __eq__ = __ne__ = __lt__ = __le__ = __gt__ = __ge__ = __hash__ = __bool__ = __index__ = fail


class Row(list):
    """A list that is no plain one and fails when it is read."""

    __eq__ = __len__ = __bool__ = __iter__ = __getitem__ = __contains__ = fail


class Parts(tuple):
    """A tuple that is no plain one and fails when it is read."""

    __eq__ = __len__ = __bool__ = __iter__ = __getitem__ = __contains__ = __hash__ = fail


class Table(dict):
    """A dict that is no plain one and fails when it is read."""

    __eq__ = __len__ = __bool__ = __iter__ = __getitem__ = __contains__ = fail
    items = keys = values = get = fail


class Posing:
    """Taken for the text "nut" where it is looked up, and fails when it is compared."""

    __eq__ = fail

    def __hash__(self):
        return hash("nut")


def things():
    """Things none of which is a ware, a make, a need, a list of needs or a reason."""
    ring = []
    ring.append(ring)
    return [
        None, True, False, 0, -1, 1000, 10 ** 40, 1.0, 5.0, float("nan"), 1j,
        "", "Nut", "nut1", "ninesigns", "nut ", "\n", "5", "\u00e9", b"nut", b"",
        (), ("nut",), ("nut", 1), ("nut", 1, 2, 3), (("nut", 1, 2),), (1, 2),
        ["nut"], ["nut", 1, 2], [[]], [None], ring, {}, {"nut": 5}, {5: "nut"}, set(),
        {"nut"}, frozenset(), range(1, 3), iter([]), (n for n in ()), bytearray(b"nut"),
        object(), object, str, int, len, lambda: "nut", PickError, PickError(), Shop(), unittest,
        Alike(), Unwilling(), Posing(), Text("nut"), Number(5), Row([("nut", 1, 2)]),
        Parts(("nut", 1, 2)), Table(nut=5),
    ]


def shop_with(rows):
    """A shop with a make for each key (ware, make), and its needs."""
    shop = Shop()
    for (ware, make), needs in rows.items():
        shop.put(ware, make, needs)
    return shop


def told(shop):
    """All that a shop tells, as one value."""
    wares = shop.wares()
    makes = [(ware, shop.makes(ware)) for ware in wares]
    needs = [(ware, make, shop.needs(ware, make)) for ware, row in makes for make in row]
    return (wares, makes, needs)


def ware_at(index):
    """A ware of its own for each number up to 25."""
    return "ware" + "abcdefghijklmnopqrstuvwxyz"[index]


def shop_of(wares, makes):
    """A shop with so many wares, each in so many makes, from 1 on, that need nothing."""
    shop = Shop()
    for index in range(wares):
        for make in range(1, makes + 1):
            shop.put(ware_at(index), make, [])
    return shop


class ShopCase(unittest.TestCase):
    def assert_refused(self, error, shop, deed, *parts):
        """The deed is refused by just that class, and the shop tells what it told before."""
        before = told(shop)
        with self.assertRaises(PickError) as caught:
            deed(*parts)
        self.assertIs(type(caught.exception), error)
        self.assertIsInstance(caught.exception, ValueError)
        self.assertEqual(told(shop), before)
