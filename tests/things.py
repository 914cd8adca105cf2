"""Things of any kind, and what the tests of a shop share."""

import unittest

from pickfloor.errors import PickError
from pickfloor.shop import Shop


class Alike:
    """Says that it is equal to anything, and cannot be a key."""

    __hash__ = None

    def __eq__(self, other):
        return True


class Unwilling:
    """Fails whatever it is asked."""

    def fail(self, *rest):
        raise RuntimeError("asked")

    __eq__ = __ne__ = __hash__ = __len__ = __bool__ = __iter__ = __getitem__ = fail
    __lt__ = __le__ = __gt__ = __ge__ = __contains__ = __int__ = __str__ = __repr__ = fail


def things():
    """Things none of which is a ware, a make, a need or a list of needs."""
    ring = []
    ring.append(ring)
    return [
        None, True, False, 0, -1, 1000, 10 ** 40, 1.0, 5.0, float("nan"), 1j,
        "", "Nut", "nut1", "ninesigns", "nut ", "\n", "5", "\u00e9", b"nut", b"",
        (), ("nut",), ("nut", 1), ("nut", 1, 2, 3), (("nut", 1, 2),), (1, 2),
        ["nut"], ["nut", 1, 2], [[]], [None], ring, {}, {"nut": 5}, {5: "nut"}, set(),
        {"nut"}, frozenset(), range(1, 3), iter([]), (n for n in ()), bytearray(b"nut"),
        object(), object, str, int, len, lambda: "nut", PickError, PickError(), Shop(), unittest,
        Alike(), Unwilling(),
    ]


def told(shop):
    """All that a shop tells, as one value."""
    wares = shop.wares()
    makes = [(ware, shop.makes(ware)) for ware in wares]
    needs = [(ware, make, shop.needs(ware, make)) for ware, row in makes for make in row]
    return (wares, makes, needs)


def ware_at(index):
    """A ware of its own for each number up to 25."""
    return "ware" + "abcdefghijklmnopqrstuvwxyz"[index]


def shop_of(wares, makes):
    """A shop with so many wares, each in so many makes, from 1 on, that need nothing."""
    shop = Shop()
    for index in range(wares):
        for make in range(1, makes + 1):
            shop.put(ware_at(index), make, [])
    return shop


class ShopCase(unittest.TestCase):
    def assert_refused(self, error, shop, deed, *parts):
        """The deed is refused by just that class, and the shop tells what it told before."""
        before = told(shop)
        with self.assertRaises(PickError) as caught:
            deed(*parts)
        self.assertIs(type(caught.exception), error)
        self.assertIsInstance(caught.exception, ValueError)
        self.assertEqual(told(shop), before)
