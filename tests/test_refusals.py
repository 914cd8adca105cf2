"""pickfloor/shop.py: promise 14, what a shop refuses, and promise 1 of things of any kind."""

import unittest

from pickfloor.errors import BadMake, BadNeed, BadWare, Full, NoMake, Twice
from pickfloor.shop import Shop
from tests.things import ShopCase, shop_of, things, told, ware_at

SEVEN = [(ware_at(index), 1, 2) for index in range(14, 21)]
NO_NEEDS = [
    (), (("pin", 1, 2),), "", "pin", {}, {("pin", 1, 2): True}, None, 0, True, ("pin", 1, 2),
    [None], [("pin", 1)], [["pin", 1, 2]], [("pin", 2, 1)], [("pin", 0, 1)], [("Pin", 1, 2)],
    ["pin", 1, 2], [("pin", True, 2)], [("pin", 1, 2), None], [("pin", 1, 2), ("cap", 2, 1)],
    [[("pin", 1, 2)]], SEVEN, SEVEN + SEVEN,
    [("nut", 1, 2)], [("nut", 5, 5)], [("pin", 1, 2), ("nut", 900, 999)],
    [("pin", 1, 2), ("pin", 1, 2)], [("pin", 1, 2), ("pin", 3, 4)],
    [("pin", 1, 2), ("cap", 1, 2), ("pin", 3, 4)],
]


def small_shop():
    shop = Shop()
    shop.put("nut", 1, [("pin", 1, 2)])
    shop.put("nut", 5, [])
    shop.put("pin", 2, [])
    return shop


class Putting(ShopCase):
    def setUp(self):
        self.shop = small_shop()

    def put_refused(self, error, *parts):
        self.assert_refused(error, self.shop, self.shop.put, *parts)

    def test_no_ware(self):
        for thing in things() + ["", "ninesigns", "Nut", 5, ("nut", 1, 2), [("nut", 1, 2)], []]:
            with self.subTest(kind=type(thing)):
                self.put_refused(BadWare, thing, 7, [])

    def test_no_make(self):
        for thing in things() + [0, 1000, -1, True, False, "5", "nut", ("nut", 1, 2), []]:
            with self.subTest(kind=type(thing)):
                self.put_refused(BadMake, "nut", thing, [])

    def test_no_needs(self):
        for thing in NO_NEEDS + things() + ["nut", 5, [5], ["nut"]]:
            with self.subTest(kind=type(thing)):
                self.put_refused(BadNeed, "nut", 7, thing)

    def test_one_of_the_needs_is_of_any_kind(self):
        for thing in things() + [[], "nut", 5]:
            with self.subTest(kind=type(thing)):
                self.put_refused(BadNeed, "nut", 7, [thing])
                self.put_refused(BadNeed, "nut", 7, [("pin", 1, 2), thing])
                self.put_refused(BadNeed, "nut", 7, [thing, ("pin", 1, 2)])

    def test_a_part_of_a_need_is_of_any_kind(self):
        for thing in things():
            with self.subTest(kind=type(thing)):
                self.put_refused(BadNeed, "nut", 7, [(thing, 1, 2)])
                self.put_refused(BadNeed, "nut", 7, [("pin", thing, 2)])
                self.put_refused(BadNeed, "nut", 7, [("pin", 1, thing)])

    def test_seven_needs_are_too_many_and_six_are_not(self):
        self.put_refused(BadNeed, "nut", 7, SEVEN)
        self.shop.put("nut", 7, SEVEN[:6])
        self.assertEqual(self.shop.needs("nut", 7), SEVEN[:6])

    def test_what_was_refused_is_handed_back_as_it_was(self):
        needs = [("pin", 1, 2), ("cap", 1, 2), ["arm", 1, 2]]
        self.put_refused(BadNeed, "nut", 7, needs)
        self.assertEqual(needs, [("pin", 1, 2), ("cap", 1, 2), ["arm", 1, 2]])

    def test_twice(self):
        for needs in ([], [("pin", 1, 2)], [("cap", 1, 1)]):
            self.put_refused(Twice, "nut", 1, needs)
            self.put_refused(Twice, "nut", 5, needs)
        self.put_refused(Twice, "pin", 2, [])

    def test_one_make_of_two_wares_is_not_twice(self):
        self.shop.put("pin", 5, [])
        self.shop.put("nut", 2, [])
        self.assertEqual(self.shop.makes("pin"), [2, 5])
        self.assertEqual(self.shop.makes("nut"), [1, 2, 5])

    def test_good_behind_each_refusal(self):
        self.put_refused(BadWare, "Cap", 7, [])
        self.put_refused(BadMake, "cap", 0, [])
        self.put_refused(BadNeed, "cap", 7, [("cap", 1, 2)])
        self.assertEqual(self.shop.makes("cap"), [])
        self.shop.put("cap", 7, [("pin", 1, 2)])
        self.assertEqual(self.shop.needs("cap", 7), [("pin", 1, 2)])

    def test_twice_until_it_was_taken_out(self):
        self.put_refused(Twice, "nut", 1, [("cap", 3, 4)])
        self.shop.take("nut", 1)
        self.shop.put("nut", 1, [("cap", 3, 4)])
        self.assertEqual(self.shop.needs("nut", 1), [("cap", 3, 4)])


class FullShops(ShopCase):
    def test_a_ninth_make(self):
        shop = shop_of(3, 8)
        self.assert_refused(Full, shop, shop.put, ware_at(1), 9, [])
        self.assert_refused(Full, shop, shop.put, ware_at(1), 999, [("nut", 1, 2)])
        shop.put("nut", 9, [])

    def test_a_ninth_make_until_one_was_taken_out(self):
        shop = shop_of(3, 8)
        self.assert_refused(Full, shop, shop.put, ware_at(1), 9, [])
        shop.take(ware_at(0), 4)
        self.assert_refused(Full, shop, shop.put, ware_at(1), 9, [])
        shop.take(ware_at(1), 4)
        shop.put(ware_at(1), 9, [])
        self.assertEqual(shop.makes(ware_at(1)), [1, 2, 3, 5, 6, 7, 8, 9])
        self.assert_refused(Full, shop, shop.put, ware_at(1), 4, [])

    def test_a_thirteenth_ware(self):
        shop = shop_of(12, 1)
        self.assert_refused(Full, shop, shop.put, "nut", 1, [])
        self.assertEqual(shop.makes("nut"), [])
        shop.put(ware_at(11), 2, [])
        self.assertEqual(shop.makes(ware_at(11)), [1, 2])

    def test_a_thirteenth_ware_until_one_was_taken_out(self):
        shop = shop_of(12, 2)
        self.assert_refused(Full, shop, shop.put, "nut", 1, [])
        shop.take(ware_at(3), 1)
        self.assert_refused(Full, shop, shop.put, "nut", 1, [])
        shop.take(ware_at(3), 2)
        shop.put("nut", 1, [])
        self.assertEqual(shop.makes("nut"), [1])
        self.assert_refused(Full, shop, shop.put, ware_at(3), 1, [])

    def test_a_shop_full_of_wares_and_makes(self):
        shop = shop_of(12, 8)
        self.assert_refused(Full, shop, shop.put, "nut", 1, [])
        self.assert_refused(Full, shop, shop.put, ware_at(0), 9, [])

    def test_what_is_refused_takes_no_place(self):
        shop = shop_of(11, 7)
        for ware in ("nut", "pin", "cap"):
            self.assert_refused(BadNeed, shop, shop.put, ware, 1, [None])
            self.assert_refused(BadMake, shop, shop.put, ware, 0, [])
            self.assert_refused(NoMake, shop, shop.take, ware, 1)
            self.assert_refused(NoMake, shop, shop.needs, ware, 1)
            self.assertEqual(shop.makes(ware), [])
        for make in (8, 9, 10):
            self.assert_refused(BadNeed, shop, shop.put, ware_at(0), make, [None])
            self.assert_refused(NoMake, shop, shop.take, ware_at(0), make)
            self.assert_refused(NoMake, shop, shop.needs, ware_at(0), make)
        shop.put("bolt", 1, [])
        shop.put(ware_at(0), 11, [])
        self.assert_refused(Full, shop, shop.put, "nut", 1, [])
        self.assert_refused(Full, shop, shop.put, ware_at(0), 8, [])


class TheFirstThatIsSo(ShopCase):
    def test_no_ware_ahead_of_all(self):
        shop = shop_of(12, 8)
        for thing in things() + ["Nut", "ninesigns"]:
            with self.subTest(kind=type(thing)):
                self.assert_refused(BadWare, shop, shop.put, thing, 1, [])
                self.assert_refused(BadWare, shop, shop.put, thing, thing, [])
                self.assert_refused(BadWare, shop, shop.put, thing, 1, thing)
                self.assert_refused(BadWare, shop, shop.put, thing, thing, thing)

    def test_no_make_ahead_of_no_needs(self):
        shop = shop_of(12, 8)
        for thing in things() + [0, 1000, True]:
            with self.subTest(kind=type(thing)):
                self.assert_refused(BadMake, shop, shop.put, ware_at(0), thing, thing)
                self.assert_refused(BadMake, shop, shop.put, "nut", thing, [("nut", 1, 2)])
                self.assert_refused(BadMake, shop, shop.put, "nut", thing, [])

    def test_no_needs_ahead_of_twice(self):
        shop = small_shop()
        for thing in NO_NEEDS:
            with self.subTest(needs=thing):
                self.assert_refused(BadNeed, shop, shop.put, "nut", 1, thing)

    def test_no_needs_ahead_of_full(self):
        shop = shop_of(12, 8)
        self.assert_refused(BadNeed, shop, shop.put, ware_at(0), 9, [(ware_at(0), 1, 2)])
        self.assert_refused(BadNeed, shop, shop.put, "nut", 1, [("nut", 1, 2)])
        self.assert_refused(BadNeed, shop, shop.put, "nut", 1, None)

    def test_twice_ahead_of_full(self):
        shop = shop_of(12, 8)
        for make in range(1, 9):
            self.assert_refused(Twice, shop, shop.put, ware_at(0), make, [])
            self.assert_refused(Twice, shop, shop.put, ware_at(11), make, [("nut", 1, 2)])


class TakingAndNeedsAsked(ShopCase):
    def setUp(self):
        self.shop = small_shop()

    def no_make(self, *parts):
        self.assert_refused(NoMake, self.shop, self.shop.take, *parts)
        self.assert_refused(NoMake, self.shop, self.shop.needs, *parts)

    def test_a_make_or_a_ware_that_the_shop_has_not(self):
        for ware, make in [("nut", 2), ("nut", 999), ("pin", 1), ("pin", 5), ("cap", 1)]:
            with self.subTest(ware=ware, make=make):
                self.no_make(ware, make)

    def test_a_ware_that_is_only_needed(self):
        self.shop.put("leg", 3, [("arm", 1, 2)])
        self.no_make("arm", 1)

    def test_things_of_any_kind(self):
        for thing in things() + [[], 5, "cap", ("nut", 1, 2)]:
            with self.subTest(kind=type(thing)):
                self.no_make(thing, thing)
                self.no_make(thing, 1)
                self.no_make(thing, None)

    def test_makes_of_any_kind(self):
        # The shop has the makes 1 and 5 of nut, which are equal to True, 1.0 and 5.0.
        for thing in things() + [[], "nut", "1", [1], (1,), 0, 1000]:
            with self.subTest(kind=type(thing)):
                self.no_make("nut", thing)
                self.no_make("cap", thing)

    def test_the_wrong_way_round(self):
        self.no_make(1, "nut")

    def test_taken_out_already(self):
        self.shop.take("nut", 1)
        self.no_make("nut", 1)
        self.shop.take("nut", 5)
        self.no_make("nut", 5)
        self.no_make("nut", 1)

    def test_good_behind_a_refusal(self):
        self.no_make("nut", 7)
        self.shop.put("nut", 7, [("cap", 1, 2)])
        self.assertEqual(self.shop.needs("nut", 7), [("cap", 1, 2)])
        self.shop.take("nut", 7)
        self.assertEqual(told(self.shop), told(small_shop()))


class MakesAsked(ShopCase):
    def test_no_ware(self):
        shop = small_shop()
        for thing in things() + ["", "Nut", "ninesigns", 5, [], ["nut"], ("nut", 1, 2)]:
            with self.subTest(kind=type(thing)):
                self.assert_refused(BadWare, shop, shop.makes, thing)
                self.assert_refused(BadWare, shop, Shop().makes, thing)

    def test_a_ware_that_the_shop_has_not_is_not_refused(self):
        self.assertEqual(small_shop().makes("cap"), [])


if __name__ == "__main__":
    unittest.main()
