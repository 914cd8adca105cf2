"""pickfloor/picks.py: promises 4 to 7, and 14 and 1 of a wish and of picks."""

import copy
import unittest

from pickfloor.errors import BadPick, BadWish
from pickfloor.picks import MOST_WISHES, agenda, meets, newer
from tests.things import ShopCase, Posing, shop_with, things, told
from tests.trying import agenda_of, all_picks, is_ahead, is_met, tried_shops

EIGHT = [("nut", 1, 9)] * 8
NO_WISHES = [
    (), (("nut", 1, 9),), "", "nut", {}, {("nut", 1, 9): True}, None, 0, True, ("nut", 1, 9),
    [None], [("nut", 1)], [["nut", 1, 9]], [("nut", 2, 1)], [("nut", 0, 1)], [("nut", 1, 1000)],
    [("Nut", 1, 2)], ["nut", 1, 2], [("nut", True, 2)], [("nut", 1, 9), None], [[("nut", 1, 9)]],
    [("nut", 1, 9, 9)], EIGHT + [("nut", 1, 9)], EIGHT + EIGHT, EIGHT[1:] + [None],
]
NO_PICKS = [
    None, 0, True, "", "nut", [], (), ["nut"], [("nut", 5)], (("nut", 5),), ("nut", 5), {"nut"},
    {"nut": 4}, {"nut": 1000}, {"nut": 0}, {"nut": -5}, {"nut": "5"}, {"nut": None}, {"nut": [5]},
    {"nut": 5.0}, {"pin": True}, {"pin": 1.0}, {"nut": (5,)}, {"bolt": 1}, {"Nut": 5}, {"": 5},
    {5: "nut"}, {None: None}, {("nut", 5): True}, {b"nut": 5}, {"nut": 5, "bolt": 1},
    {"bolt": 1, "nut": 5}, {"nut": 5, 7: 7}, {Posing(): 5}, {"nut": {"nut": 5}},
]


def small_shop():
    return shop_with({
        ("nut", 5): [("pin", 1, 2), ("cap", 3, 4)], ("nut", 6): [("cap", 4, 9), ("pin", 2, 2)],
        ("nut", 7): [], ("pin", 1): [], ("pin", 2): [("arm", 1, 1)], ("cap", 3): [],
        ("cap", 4): [("leg", 2, 3)], ("arm", 1): [("nut", 5, 6)], ("leg", 2): [], ("leg", 3): [],
    })


class Agenda(unittest.TestCase):
    def setUp(self):
        self.shop = small_shop()

    def test_the_number(self):
        self.assertEqual(MOST_WISHES, 8)

    def test_of_an_empty_wish(self):
        self.assertEqual(agenda(self.shop, [], {}), [])
        self.assertEqual(agenda(self.shop, [], {"nut": 5, "pin": 1}), [])

    def test_the_wares_of_the_wish_in_order(self):
        wish = [("pin", 1, 1), ("arm", 1, 1), ("cap", 3, 3)]
        self.assertEqual(agenda(self.shop, wish, {}), ["pin", "arm", "cap"])
        self.assertEqual(agenda(self.shop, wish[::-1], {}), ["cap", "arm", "pin"])

    def test_the_wares_that_the_picked_makes_need_behind_them(self):
        wish = [("nut", 1, 9)]
        self.assertEqual(agenda(self.shop, wish, {"nut": 5}), ["nut", "pin", "cap"])
        self.assertEqual(agenda(self.shop, wish, {"nut": 6}), ["nut", "cap", "pin"])
        self.assertEqual(agenda(self.shop, wish, {"nut": 7}), ["nut"])

    def test_going_along_the_list_itself(self):
        # pin and cap stand ahead of arm and leg, which they need.
        wish = [("nut", 1, 9)]
        self.assertEqual(agenda(self.shop, wish, {"nut": 5, "pin": 2, "cap": 4}),
                         ["nut", "pin", "cap", "arm", "leg"])
        self.assertEqual(agenda(self.shop, wish, {"nut": 6, "pin": 2, "cap": 4}),
                         ["nut", "cap", "pin", "leg", "arm"])

    def test_all_of_the_wish_ahead_of_what_is_needed(self):
        wish = [("nut", 1, 9), ("leg", 1, 9), ("pin", 1, 9)]
        self.assertEqual(agenda(self.shop, wish, {"nut": 6, "pin": 2}),
                         ["nut", "leg", "pin", "cap", "arm"])

    def test_each_ware_once_where_it_came_first(self):
        wish = [("nut", 1, 2), ("cap", 1, 1), ("nut", 5, 5), ("cap", 9, 9)]
        self.assertEqual(agenda(self.shop, wish, {}), ["nut", "cap"])
        self.assertEqual(agenda(self.shop, wish, {"nut": 5}), ["nut", "cap", "pin"])

    def test_needs_in_a_ring(self):
        shop = shop_with({("nut", 1): [("pin", 1, 1)], ("pin", 1): [("cap", 1, 1)],
                          ("cap", 1): [("nut", 1, 1)]})
        pick = {"nut": 1, "pin": 1, "cap": 1}
        self.assertEqual(agenda(shop, [("pin", 1, 1)], pick), ["pin", "cap", "nut"])
        self.assertEqual(agenda(shop, [("cap", 1, 1)], pick), ["cap", "nut", "pin"])

    def test_makes_out_of_their_stretch_are_followed_all_the_same(self):
        self.assertEqual(agenda(self.shop, [("nut", 7, 7)], {"nut": 5, "cap": 4}),
                         ["nut", "pin", "cap", "leg"])

    def test_wares_that_are_picked_but_asked_for_by_nothing(self):
        self.assertEqual(agenda(self.shop, [("pin", 1, 1)], {"pin": 1, "nut": 5, "cap": 4}), ["pin"])

    def test_wares_that_the_shop_has_not(self):
        self.assertEqual(agenda(self.shop, [("bolt", 1, 1), ("nut", 1, 1)], {}), ["bolt", "nut"])
        shop = shop_with({("nut", 1): [("bolt", 1, 1), ("zoo", 1, 1)]})
        self.assertEqual(agenda(shop, [("nut", 1, 1)], {"nut": 1}), ["nut", "bolt", "zoo"])

    def test_the_order_of_the_pick_does_not_matter(self):
        wish = [("nut", 1, 9)]
        one = {"nut": 5, "pin": 2, "cap": 4}
        other = {"cap": 4, "pin": 2, "nut": 5}
        self.assertEqual(agenda(self.shop, wish, one), agenda(self.shop, wish, other))

    def test_it_is_a_list_of_texts(self):
        row = agenda(self.shop, [("nut", 1, 9)], {"nut": 5})
        self.assertIs(type(row), list)
        self.assertEqual({type(ware) for ware in row}, {str})


class Meets(unittest.TestCase):
    def setUp(self):
        self.shop = small_shop()

    def assert_meets(self, wish, pick, answer):
        self.assertIs(meets(self.shop, wish, pick), answer)

    def test_an_empty_wish_by_the_empty_pick_alone(self):
        self.assert_meets([], {}, True)
        self.assert_meets([], {"pin": 1}, False)

    def test_all_needs_met(self):
        self.assert_meets([("nut", 5, 5)], {"nut": 5, "pin": 1, "cap": 3}, True)
        self.assert_meets([("nut", 7, 9)], {"nut": 7}, True)
        self.assert_meets([("nut", 6, 6)],
                          {"nut": 6, "cap": 4, "pin": 2, "leg": 3, "arm": 1}, True)

    def test_a_ware_too_many(self):
        self.assert_meets([("nut", 7, 7)], {"nut": 7, "pin": 1}, False)
        self.assert_meets([("nut", 5, 5)], {"nut": 5, "pin": 1, "cap": 3, "leg": 2}, False)

    def test_wares_too_many_that_need_one_another(self):
        shop = shop_with({("nut", 1): [("pin", 1, 1)], ("pin", 1): [("nut", 1, 1)],
                          ("cap", 1): []})
        self.assertIs(meets(shop, [("cap", 1, 1)], {"cap": 1, "nut": 1, "pin": 1}), False)
        self.assertIs(meets(shop, [("cap", 1, 1)], {"cap": 1}), True)
        self.assertIs(meets(shop, [("pin", 1, 1)], {"nut": 1, "pin": 1}), True)

    def test_a_ware_too_few(self):
        self.assert_meets([("nut", 7, 7)], {}, False)
        self.assert_meets([("nut", 5, 5)], {"nut": 5, "pin": 1}, False)
        self.assert_meets([("nut", 7, 7), ("pin", 1, 1)], {"nut": 7}, False)
        self.assert_meets([("bolt", 1, 1)], {}, False)

    def test_as_many_wares_as_on_the_agenda_but_another_one(self):
        self.assert_meets([("nut", 7, 7)], {"pin": 1}, False)
        self.assert_meets([("nut", 5, 5)], {"nut": 5, "pin": 1, "leg": 2}, False)

    def test_a_need_of_the_wish_at_both_its_ends(self):
        for low, high, answer in [(7, 9, True), (1, 7, True), (7, 7, True), (8, 9, False),
                                  (1, 6, False)]:
            self.assert_meets([("nut", low, high)], {"nut": 7}, answer)

    def test_a_need_of_a_make_at_both_its_ends(self):
        for low, high, answer in [(5, 9, True), (1, 5, True), (6, 9, False), (1, 4, False)]:
            shop = shop_with({("nut", 1): [("pin", low, high)], ("pin", 5): []})
            self.assertIs(meets(shop, [("nut", 1, 1)], {"nut": 1, "pin": 5}), answer)

    def test_a_ware_in_several_needs_of_the_wish(self):
        self.assert_meets([("nut", 1, 7), ("nut", 7, 9)], {"nut": 7}, True)
        self.assert_meets([("nut", 1, 6), ("nut", 7, 9)], {"nut": 7}, False)
        self.assert_meets([("nut", 7, 9), ("nut", 1, 6)], {"nut": 7}, False)
        self.assert_meets(EIGHT, {"nut": 7}, True)

    def test_the_last_of_the_needs_of_a_make_and_of_a_wish(self):
        self.assert_meets([("nut", 5, 5)], {"nut": 5, "pin": 1, "cap": 4, "leg": 2}, True)
        self.assert_meets([("nut", 6, 6)],
                          {"nut": 6, "cap": 4, "pin": 1, "leg": 3}, False)
        self.assert_meets([("nut", 7, 7), ("pin", 2, 2)], {"nut": 7, "pin": 1}, False)

    def test_needs_in_a_ring(self):
        shop = shop_with({("nut", 1): [("pin", 1, 1)], ("pin", 1): [("nut", 1, 1)],
                          ("nut", 2): [("pin", 1, 1)]})
        wish = [("nut", 1, 9)]
        self.assertIs(meets(shop, wish, {"nut": 1, "pin": 1}), True)
        self.assertIs(meets(shop, wish, {"nut": 2, "pin": 1}), False)

    def test_needs_of_what_the_shop_has_not(self):
        shop = shop_with({("nut", 1): [("bolt", 1, 1)], ("nut", 2): [("pin", 9, 9)],
                          ("pin", 1): []})
        self.assertIs(meets(shop, [("nut", 1, 1)], {"nut": 1}), False)
        self.assertIs(meets(shop, [("nut", 2, 2)], {"nut": 2, "pin": 1}), False)


class Newer(unittest.TestCase):
    def setUp(self):
        self.shop = shop_with({
            ("nut", 1): [("pin", 1, 3), ("cap", 1, 3)], ("nut", 2): [("leg", 1, 1)],
            ("pin", 1): [], ("pin", 2): [], ("pin", 3): [], ("cap", 1): [], ("cap", 2): [],
            ("leg", 1): [],
        })
        self.wish = [("nut", 1, 2)]

    def assert_ahead(self, one, other, wish=None):
        wish = self.wish if wish is None else wish
        self.assertIs(newer(self.shop, wish, one, other), True)
        self.assertIs(newer(self.shop, wish, other, one), False)

    def test_by_the_first_ware_of_the_wish(self):
        self.assert_ahead({"nut": 2, "leg": 1}, {"nut": 1, "pin": 3, "cap": 2})

    def test_by_the_first_ware_of_which_they_have_unlike_makes(self):
        self.assert_ahead({"nut": 1, "pin": 2, "cap": 1}, {"nut": 1, "pin": 1, "cap": 2})
        self.assert_ahead({"nut": 1, "pin": 2, "cap": 2}, {"nut": 1, "pin": 2, "cap": 1})
        self.assert_ahead({"cap": 1, "pin": 3, "nut": 1}, {"cap": 2, "pin": 1, "nut": 1})

    def test_by_the_order_of_the_wish(self):
        one, other = {"pin": 1, "cap": 2}, {"pin": 2, "cap": 1}
        self.assert_ahead(one, other, [("cap", 1, 2), ("pin", 1, 2)])
        self.assert_ahead(other, one, [("pin", 1, 2), ("cap", 1, 2)])
        self.assert_ahead(one, other, [("cap", 1, 2), ("pin", 1, 2), ("cap", 1, 3)])

    def test_the_order_of_the_agenda_and_not_of_the_alphabet(self):
        # cap comes before pin in the alphabet, behind it on the agenda.
        self.assert_ahead({"nut": 1, "pin": 3, "cap": 1}, {"nut": 1, "pin": 2, "cap": 2})

    def test_alike_ones(self):
        for pick in ({"nut": 2, "leg": 1}, {"nut": 1, "pin": 3, "cap": 2}):
            self.assertIs(newer(self.shop, self.wish, pick, pick), False)
            self.assertIs(newer(self.shop, self.wish, pick, dict(pick)), False)
        self.assertIs(newer(self.shop, self.wish, {"nut": 2, "leg": 1}, {"leg": 1, "nut": 2}), False)
        self.assertIs(newer(self.shop, [], {}, {}), False)


class ByTrying(unittest.TestCase):
    def test_all_picks_of_small_shops(self):
        for shop, wish in tried_shops(5, 60):
            good = []
            for pick in all_picks(shop):
                self.assertEqual(agenda(shop, wish, pick), agenda_of(shop, wish, pick))
                met = is_met(shop, wish, pick)
                self.assertIs(meets(shop, wish, pick), met)
                if met:
                    good.append(pick)
            for one in good:
                for other in good:
                    self.assertIs(newer(shop, wish, one, other), is_ahead(shop, wish, one, other))
                    if one != other:
                        self.assertNotEqual(newer(shop, wish, one, other),
                                            newer(shop, wish, other, one))


class Refused(ShopCase):
    def setUp(self):
        self.shop = small_shop()
        self.wish = [("nut", 7, 7)]

    def all_refused(self, error, wish, *picks):
        for asked in (agenda, meets):
            for pick in picks:
                self.assert_refused(error, self.shop, asked, self.shop, wish, pick)
        for pick in picks:
            self.assert_refused(error, self.shop, newer, self.shop, wish, pick, pick)

    def test_no_wish(self):
        for wish in NO_WISHES + things():
            with self.subTest(kind=type(wish)):
                self.all_refused(BadWish, wish, {}, {"nut": 7})

    def test_one_of_the_needs_is_of_any_kind(self):
        for thing in things():
            with self.subTest(kind=type(thing)):
                self.all_refused(BadWish, [thing], {})
                self.all_refused(BadWish, [("nut", 7, 7), thing], {"nut": 7})
                self.all_refused(BadWish, [("nut", 7, thing)], {"nut": 7})

    def test_eight_needs_and_nine(self):
        self.assertIs(meets(self.shop, EIGHT, {"nut": 7}), True)
        self.assertEqual(agenda(self.shop, EIGHT, {"nut": 7}), ["nut"])
        self.assertIs(newer(self.shop, EIGHT, {"nut": 7}, {"nut": 7}), False)
        self.all_refused(BadWish, EIGHT + EIGHT[:1], {"nut": 7})

    def test_no_pick(self):
        plain = [thing for thing in things() if type(thing) is not dict]
        for pick in NO_PICKS + plain:
            with self.subTest(kind=type(pick)):
                self.all_refused(BadPick, self.wish, pick)
                self.all_refused(BadPick, [], pick)
                self.assert_refused(BadPick, self.shop, newer, self.shop, self.wish, {"nut": 7}, pick)
                self.assert_refused(BadPick, self.shop, newer, self.shop, self.wish, pick, {"nut": 7})

    def test_a_make_of_any_kind_in_a_pick(self):
        for thing in things():
            with self.subTest(kind=type(thing)):
                self.all_refused(BadPick, self.wish, {"nut": thing}, {"pin": thing},
                                 {"nut": 7, "pin": thing})

    def test_no_wish_ahead_of_no_pick(self):
        for pick in NO_PICKS:
            self.all_refused(BadWish, None, pick)
            self.all_refused(BadWish, EIGHT + EIGHT, pick)

    def test_a_pick_of_a_make_that_was_taken_out(self):
        self.assertIs(meets(self.shop, self.wish, {"nut": 7}), True)
        self.shop.take("nut", 7)
        self.all_refused(BadPick, self.wish, {"nut": 7})

    def test_newer_of_a_pick_that_does_not_meet_the_wish(self):
        good = {"nut": 7}
        for bad in [{}, {"nut": 7, "pin": 1}, {"pin": 1}, {"nut": 5, "pin": 1, "cap": 3}]:
            for one, other in [(good, bad), (bad, good), (bad, bad)]:
                self.assert_refused(BadPick, self.shop, newer, self.shop, self.wish, one, other)

    def test_agenda_and_meets_of_a_pick_that_does_not_meet_the_wish(self):
        self.assertIs(meets(self.shop, self.wish, {"pin": 1}), False)
        self.assertEqual(agenda(self.shop, self.wish, {"pin": 1}), ["nut"])


class TheAskersOwn(unittest.TestCase):
    def test_what_is_handed_in_is_not_changed(self):
        shop = small_shop()
        before = told(shop)
        wish = [("nut", 1, 9), ("nut", 5, 6)]
        pick = {"cap": 4, "nut": 6, "pin": 2, "leg": 3, "arm": 1}
        wish_before, rows = copy.deepcopy(wish), list(pick.items())
        for _ in range(2):
            agenda(shop, wish, pick)
            self.assertIs(meets(shop, wish, pick), True)
            newer(shop, wish, pick, pick)
        self.assertEqual(told(shop), before)
        self.assertEqual(wish, wish_before)
        self.assertEqual(list(pick.items()), rows)

    def test_a_told_agenda_is_changed_by_the_asker(self):
        shop = small_shop()
        wish = [("nut", 1, 9)]
        row = agenda(shop, wish, {"nut": 5})
        row.clear()
        self.assertEqual(agenda(shop, wish, {"nut": 5}), ["nut", "pin", "cap"])
        self.assertEqual(wish, [("nut", 1, 9)])
        self.assertEqual(shop.needs("nut", 5), [("pin", 1, 2), ("cap", 3, 4)])

    def test_what_is_handed_in_is_read_as_it_is_when_it_is_asked(self):
        shop = small_shop()
        wish = [("nut", 7, 7)]
        pick = {"nut": 7}
        self.assertIs(meets(shop, wish, pick), True)
        wish.append(("pin", 1, 1))
        self.assertIs(meets(shop, wish, pick), False)
        self.assertEqual(agenda(shop, wish, pick), ["nut", "pin"])
        pick["pin"] = 1
        self.assertIs(meets(shop, wish, pick), True)
        shop.take("nut", 7)
        shop.put("nut", 7, [("cap", 3, 3)])
        self.assertIs(meets(shop, wish, pick), False)
        self.assertEqual(agenda(shop, wish, pick), ["nut", "pin", "cap"])


if __name__ == "__main__":
    unittest.main()
