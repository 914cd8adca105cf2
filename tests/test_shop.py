"""pickfloor/shop.py: promises 3 and 1, what a shop tells and whose it is."""

import unittest

from pickfloor.shop import MOST_MAKES, MOST_NEEDS, MOST_WARES, Shop
from tests.things import shop_of, told, ware_at


class Telling(unittest.TestCase):
    def test_the_numbers(self):
        self.assertEqual((MOST_WARES, MOST_MAKES, MOST_NEEDS), (12, 8, 6))

    def test_a_new_shop_has_nothing(self):
        self.assertEqual(Shop().wares(), [])
        self.assertEqual(Shop().makes("nut"), [])

    def test_what_is_put_is_told_as_it_was_put(self):
        shop = Shop()
        needs = [("pin", 3, 7), ("cap", 1, 999), ("arm", 5, 5)]
        self.assertIs(shop.put("nut", 5, needs), None)
        self.assertEqual(shop.wares(), ["nut"])
        self.assertEqual(shop.makes("nut"), [5])
        self.assertEqual(shop.needs("nut", 5), [("pin", 3, 7), ("cap", 1, 999), ("arm", 5, 5)])

    def test_the_kinds_of_what_is_told(self):
        shop = Shop()
        shop.put("nut", 5, [("pin", 3, 7)])
        for rows in (shop.wares(), shop.makes("nut"), shop.makes("pin"), shop.needs("nut", 5)):
            self.assertIs(type(rows), list)
        self.assertIs(type(shop.needs("nut", 5)[0]), tuple)
        self.assertIs(type(shop.wares()[0]), str)
        self.assertIs(type(shop.makes("nut")[0]), int)

    def test_the_least_and_the_most_make(self):
        shop = Shop()
        shop.put("nut", 999, [])
        shop.put("nut", 1, [])
        self.assertEqual(shop.makes("nut"), [1, 999])

    def test_wares_rise(self):
        shop = Shop()
        for ware in ["nut", "b", "zoo", "a", "nu", "nuts", "aa"]:
            shop.put(ware, 5, [])
        self.assertEqual(shop.wares(), ["a", "aa", "b", "nu", "nut", "nuts", "zoo"])

    def test_makes_rise_as_numbers(self):
        shop = Shop()
        for make in [20, 3, 100, 9, 1, 999, 10]:
            shop.put("nut", make, [])
        self.assertEqual(shop.makes("nut"), [1, 3, 9, 10, 20, 100, 999])

    def test_each_make_has_needs_of_its_own(self):
        shop = Shop()
        shop.put("nut", 1, [("pin", 1, 1)])
        shop.put("nut", 2, [("pin", 2, 2)])
        shop.put("cap", 1, [])
        self.assertEqual(shop.needs("nut", 1), [("pin", 1, 1)])
        self.assertEqual(shop.needs("nut", 2), [("pin", 2, 2)])
        self.assertEqual(shop.needs("cap", 1), [])

    def test_needs_of_wares_and_makes_that_the_shop_has_not(self):
        shop = Shop()
        shop.put("nut", 5, [("pin", 3, 7)])
        shop.put("cap", 5, [("nut", 900, 999)])
        self.assertEqual(shop.needs("nut", 5), [("pin", 3, 7)])
        self.assertEqual(shop.needs("cap", 5), [("nut", 900, 999)])
        self.assertEqual(shop.wares(), ["cap", "nut"])
        self.assertEqual(shop.makes("pin"), [])

    def test_wares_that_need_one_another(self):
        shop = Shop()
        shop.put("nut", 5, [("pin", 3, 3)])
        shop.put("pin", 3, [("nut", 5, 5)])
        self.assertEqual(shop.needs("nut", 5), [("pin", 3, 3)])
        self.assertEqual(shop.needs("pin", 3), [("nut", 5, 5)])

    def test_no_makes_of_a_ware_that_the_shop_has_not(self):
        shop = shop_of(2, 2)
        self.assertEqual(shop.makes("nut"), [])
        self.assertEqual(shop.wares(), [ware_at(0), ware_at(1)])

    def test_two_shops_are_apart(self):
        one, other = Shop(), Shop()
        one.put("nut", 5, [])
        self.assertEqual(other.wares(), [])
        other.put("nut", 5, [("pin", 1, 2)])
        self.assertEqual(one.needs("nut", 5), [])

    def test_twelve_wares_eight_makes_and_six_needs_are_let_by(self):
        shop = Shop()
        needs = [(ware_at(index), index, 999) for index in range(20, 26)]
        for index in range(12):
            for make in range(8, 0, -1):
                shop.put(ware_at(index), make, needs)
        self.assertEqual(shop.wares(), [ware_at(index) for index in range(12)])
        for index in range(12):
            self.assertEqual(shop.makes(ware_at(index)), [1, 2, 3, 4, 5, 6, 7, 8])
            for make in range(1, 9):
                self.assertEqual(shop.needs(ware_at(index), make), needs)


class Taking(unittest.TestCase):
    def test_a_make_taken_out(self):
        shop = shop_of(2, 3)
        self.assertIs(shop.take(ware_at(0), 2), None)
        self.assertEqual(shop.makes(ware_at(0)), [1, 3])
        self.assertEqual(shop.makes(ware_at(1)), [1, 2, 3])
        self.assertEqual(shop.wares(), [ware_at(0), ware_at(1)])

    def test_a_ware_whose_last_make_was_taken_out(self):
        shop = shop_of(2, 2)
        shop.take(ware_at(0), 2)
        self.assertEqual(shop.wares(), [ware_at(0), ware_at(1)])
        shop.take(ware_at(0), 1)
        self.assertEqual(shop.wares(), [ware_at(1)])
        self.assertEqual(shop.makes(ware_at(0)), [])

    def test_a_make_that_others_need_may_be_taken_out(self):
        shop = Shop()
        shop.put("nut", 5, [("pin", 3, 3)])
        shop.put("pin", 3, [])
        shop.take("pin", 3)
        self.assertEqual(shop.needs("nut", 5), [("pin", 3, 3)])
        self.assertEqual(shop.wares(), ["nut"])

    def test_put_again_with_other_needs(self):
        shop = Shop()
        shop.put("nut", 5, [("pin", 3, 3)])
        shop.take("nut", 5)
        shop.put("nut", 5, [("cap", 1, 2)])
        self.assertEqual(shop.needs("nut", 5), [("cap", 1, 2)])

    def test_all_taken_out_and_filled_again(self):
        shop = shop_of(12, 8)
        for index in range(12):
            for make in range(1, 9):
                shop.take(ware_at(index), make)
        self.assertEqual(shop.wares(), [])
        for index in range(13, 25):
            for make in range(11, 19):
                shop.put(ware_at(index), make, [])
        self.assertEqual(shop.wares(), [ware_at(index) for index in range(13, 25)])


class TheAskersOwn(unittest.TestCase):
    def setUp(self):
        self.shop = Shop()
        self.shop.put("nut", 5, [("pin", 3, 7), ("cap", 1, 2)])
        self.shop.put("nut", 6, [])
        self.shop.put("pin", 4, [("cap", 1, 2)])

    def test_lists_that_were_told_are_changed_by_the_asker(self):
        before = told(self.shop)
        for _ in range(2):
            lists = [self.shop.wares(), self.shop.makes("nut"), self.shop.makes("pin"),
                     self.shop.makes("cap"), self.shop.needs("nut", 5), self.shop.needs("nut", 6)]
            for rows in lists:
                rows.append(("bolt", 1, 2))
                rows.reverse()
            for rows in lists:
                rows.clear()
            self.assertEqual(told(self.shop), before)
            self.assertEqual(self.shop.makes("cap"), [])

    def test_the_list_of_needs_is_changed_by_its_owner(self):
        needs = [("arm", 1, 1)]
        self.shop.put("leg", 1, needs)
        needs.append(("nut", 1, 1))
        self.assertEqual(self.shop.needs("leg", 1), [("arm", 1, 1)])
        needs.clear()
        self.assertEqual(self.shop.needs("leg", 1), [("arm", 1, 1)])

    def test_one_list_of_needs_for_two_makes(self):
        needs = [("arm", 1, 1)]
        self.shop.put("leg", 1, needs)
        self.shop.put("leg", 2, needs)
        self.shop.needs("leg", 1).clear()
        self.assertEqual(self.shop.needs("leg", 1), [("arm", 1, 1)])
        self.assertEqual(self.shop.needs("leg", 2), [("arm", 1, 1)])

    def test_lists_told_earlier_stay_when_the_shop_changes(self):
        wares, nuts = self.shop.wares(), self.shop.makes("nut")
        caps, needs = self.shop.makes("cap"), self.shop.needs("nut", 5)
        self.shop.put("cap", 1, [])
        self.shop.put("nut", 9, [])
        self.shop.take("nut", 5)
        self.shop.put("nut", 5, [("arm", 1, 1)])
        self.shop.take("pin", 4)
        self.assertEqual((wares, nuts, caps), (["nut", "pin"], [5, 6], []))
        self.assertEqual(needs, [("pin", 3, 7), ("cap", 1, 2)])

    def test_what_is_handed_in_is_not_changed(self):
        needs = [("zoo", 3, 7), ("arm", 1, 2), ("leg", 9, 9)]
        self.shop.put("bolt", 5, needs)
        self.shop.take("bolt", 5)
        self.assertEqual(needs, [("zoo", 3, 7), ("arm", 1, 2), ("leg", 9, 9)])

    def test_asking_changes_nothing(self):
        before = told(self.shop)
        self.assertEqual(told(self.shop), before)
        self.shop.makes("bolt")
        self.assertEqual(told(self.shop), before)
        self.assertEqual(self.shop.wares(), ["nut", "pin"])


if __name__ == "__main__":
    unittest.main()
