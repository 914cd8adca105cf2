"""pickfloor/settling.py: promises 11, 12 and 7, and 14 and 1 of a wish that is settled."""

import copy
import random
import unittest

from pickfloor.errors import BadWish
from pickfloor.picks import agenda, meets, newer
from pickfloor.reasons import holds
from pickfloor.settling import settle
from pickfloor.shop import Shop
from tests.test_picks import EIGHT, NO_WISHES
from tests.things import ShopCase, shop_of, shop_with, things, told, ware_at
from tests.trying import (all_picks, best_of, is_met, stands, steps_in, tried_shop, tried_shops)


def most_sources_in(reason):
    """The most sources that one of the steps of a reason has."""
    return max([len(reason[1])] + [most_sources_in(deeper) for _, deeper in reason[2]])


def lists_in(thing):
    """Every list in a thing, at every depth, itself counted."""
    if type(thing) is list:
        yield thing
    if type(thing) in (list, tuple):
        for part in thing:
            yield from lists_in(part)


class SettlingCase(unittest.TestCase):
    def assert_reason(self, shop, wish, pairs, reason):
        self.assertIs(holds(shop, wish, pairs, reason), True)
        self.assertTrue(stands(shop, wish, dict(pairs), reason))

    def assert_told(self, shop, wish, answer):
        """What was told has the kinds and the reasons of promise 11; of a best pick not that."""
        self.assertIs(type(answer), tuple)
        if answer[0] == "none":
            self.assertEqual(len(answer), 2)
            self.assert_reason(shop, wish, [], answer[1])
            return
        word, pairs, against = answer
        self.assertEqual(word, "pick")
        self.assertEqual({type(pairs), type(against)} | {type(row) for row in against}, {list})
        self.assertEqual({type(pair) for row in [pairs] + against for pair in row} - {tuple}, set())
        self.assertIs(meets(shop, wish, dict(pairs)), True)
        self.assertEqual([ware for ware, _ in pairs], agenda(shop, wish, dict(pairs)))
        self.assertEqual(len(against), len(pairs))
        for place, (ware, picked) in enumerate(pairs):
            makes = [make for make in reversed(shop.makes(ware)) if make > picked]
            self.assertEqual([make for make, _ in against[place]], makes)
            for make, reason in against[place]:
                self.assert_reason(shop, wish, pairs[:place] + [(ware, make)], reason)

    def settled(self, shop, wish):
        answer = settle(shop, wish)
        self.assert_told(shop, wish, answer)
        return answer

    def assert_pick(self, shop, wish, pairs):
        answer = self.settled(shop, wish)
        self.assertEqual(answer[:2], ("pick", pairs))
        return answer[2]

    def assert_none(self, shop, wish):
        answer = self.settled(shop, wish)
        self.assertEqual(answer[0], "none")
        return answer[1]


class Picked(SettlingCase):
    def test_an_empty_wish(self):
        for shop in (Shop(), shop_of(2, 2), shop_with({("nut", 1): [("bolt", 1, 1)]})):
            self.assertEqual(settle(shop, []), ("pick", [], []))

    def test_the_newest_makes(self):
        shop = shop_with({("nut", 2): [("pin", 1, 9)], ("nut", 10): [("pin", 1, 9)],
                          ("pin", 3): [], ("pin", 9): [], ("pin", 10): []})
        against = self.assert_pick(shop, [("nut", 1, 99)], [("nut", 10), ("pin", 9)])
        self.assertEqual(against[0], [])
        self.assertEqual([make for make, _ in against[1]], [10])

    def test_the_newest_make_in_a_stretch_of_the_wish(self):
        shop = shop_of(1, 8)
        ware = ware_at(0)
        for low, high, make in [(1, 8, 8), (1, 999, 8), (2, 5, 5), (4, 4, 4), (8, 9, 8), (1, 1, 1)]:
            against = self.assert_pick(shop, [(ware, low, high)], [(ware, make)])
            self.assertEqual([newer for newer, _ in against[0]], list(range(8, make, -1)))

    def test_an_older_make_where_the_newer_one_does_not_go(self):
        shop = shop_with({("nut", 1): [("pin", 1, 1)], ("nut", 2): [("pin", 2, 2)], ("pin", 1): [],
                          ("cap", 1): [("pin", 1, 1)]})
        against = self.assert_pick(shop, [("nut", 1, 2), ("cap", 1, 1)],
                                   [("nut", 1), ("cap", 1), ("pin", 1)])
        self.assertEqual([make for make, _ in against[0]], [2])
        self.assertEqual(against[1:], [[], []])

    def test_the_first_ware_of_the_wish_has_its_newest_make(self):
        shop = shop_with({("nut", 1): [("pin", 1, 2)], ("nut", 2): [("pin", 1, 1)], ("pin", 1): [],
                          ("pin", 2): []})
        self.assert_pick(shop, [("nut", 1, 2), ("pin", 1, 2)], [("nut", 2), ("pin", 1)])
        self.assert_pick(shop, [("pin", 1, 2), ("nut", 1, 2)], [("pin", 2), ("nut", 1)])

    def test_in_the_order_of_the_agenda(self):
        shop = shop_with({("nut", 1): [("zoo", 1, 1), ("pin", 1, 1)], ("zoo", 1): [("arm", 1, 1)],
                          ("pin", 1): [], ("arm", 1): [], ("cap", 1): []})
        self.assert_pick(shop, [("nut", 1, 1), ("cap", 1, 1)],
                         [("nut", 1), ("cap", 1), ("zoo", 1), ("pin", 1), ("arm", 1)])

    def test_only_the_wares_that_are_asked_for(self):
        self.assert_pick(shop_of(3, 2), [(ware_at(1), 1, 2)], [(ware_at(1), 2)])

    def test_the_newer_make_even_where_it_needs_more(self):
        shop = shop_with({("nut", 1): [], ("nut", 2): [("pin", 1, 1)], ("pin", 1): [("cap", 1, 1)],
                          ("cap", 1): []})
        self.assert_pick(shop, [("nut", 1, 2)], [("nut", 2), ("pin", 1), ("cap", 1)])

    def test_a_ware_in_several_needs(self):
        shop = shop_of(1, 8)
        ware = ware_at(0)
        self.assert_pick(shop, [(ware, 1, 7), (ware, 3, 9), (ware, 2, 5)], [(ware, 5)])
        self.assert_pick(shop, [(ware, 1, 8)] * 8, [(ware, 8)])

    def test_needs_in_a_ring(self):
        shop = shop_with({("nut", 1): [("pin", 1, 1)], ("nut", 2): [("pin", 2, 2)],
                          ("pin", 1): [("cap", 1, 1)], ("pin", 2): [("cap", 1, 1)],
                          ("cap", 1): [("nut", 1, 1)]})
        self.assert_pick(shop, [("nut", 1, 2)], [("nut", 1), ("pin", 1), ("cap", 1)])
        self.assert_pick(shop, [("cap", 1, 1)], [("cap", 1), ("nut", 1), ("pin", 1)])

    def test_needs_of_what_the_shop_has_not(self):
        shop = shop_with({("nut", 1): [], ("nut", 2): [("pin", 2, 2)], ("nut", 3): [("bolt", 1, 9)],
                          ("pin", 1): []})
        against = self.assert_pick(shop, [("nut", 1, 9)], [("nut", 1)])
        self.assertEqual([make for make, _ in against[0]], [3, 2])

    def test_all_newer_makes_of_the_shop_stand_in_against(self):
        # nut 9 lies beyond the wish, nut 8 does not go, nut 7 is picked, nut 6 is older.
        shop = shop_with({("nut", 9): [], ("nut", 8): [("bolt", 1, 1)], ("nut", 7): [], ("nut", 6): []})
        against = self.assert_pick(shop, [("nut", 1, 8)], [("nut", 7)])
        self.assertEqual([make for make, _ in against[0]], [9, 8])

    def test_eight_needs(self):
        shop = shop_of(8, 3)
        wish = [(ware_at(index), 1, 2) for index in range(8)]
        self.assert_pick(shop, wish, [(ware_at(index), 2) for index in range(8)])
        self.assert_pick(shop, wish[::-1], [(ware_at(index), 2) for index in range(7, -1, -1)])


class NonePicked(SettlingCase):
    def test_a_ware_or_make_that_the_shop_has_not(self):
        shop = shop_of(1, 3)
        self.assert_none(shop, [("bolt", 1, 999)])
        self.assert_none(shop, [(ware_at(0), 4, 999)])
        self.assert_none(shop, [(ware_at(0), 1, 3), ("bolt", 1, 1)])
        self.assert_none(Shop(), [("bolt", 1, 1)])

    def test_a_stretch_between_two_makes(self):
        self.assert_none(shop_with({("nut", 2): [], ("nut", 9): []}), [("nut", 3, 8)])

    def test_a_ware_in_needs_that_do_not_go_together(self):
        shop = shop_of(1, 8)
        ware = ware_at(0)
        self.assert_none(shop, [(ware, 1, 4), (ware, 5, 8)])
        self.assert_none(shop, [(ware, 3, 8), (ware, 1, 5), (ware, 6, 7)])

    def test_needs_that_do_not_go_together(self):
        shop = shop_with({("nut", 1): [("pin", 6, 9)], ("nut", 2): [("pin", 7, 9)],
                          ("cap", 1): [("pin", 1, 5)], ("pin", 5): [], ("pin", 6): [], ("pin", 7): []})
        self.assert_none(shop, [("nut", 1, 2), ("cap", 1, 3)])
        self.assert_none(shop, [("cap", 1, 3), ("nut", 1, 2)])
        self.assert_none(shop, [("pin", 1, 9), ("cap", 1, 3), ("nut", 1, 2)])

    def test_needs_in_a_ring(self):
        shop = shop_with({("nut", 1): [("pin", 1, 1)], ("pin", 1): [("nut", 2, 2)],
                          ("nut", 2): [("pin", 2, 2)], ("pin", 2): [("nut", 1, 1)]})
        self.assert_none(shop, [("nut", 1, 2)])
        self.assert_none(shop, [("pin", 1, 2)])

    def test_a_need_far_down(self):
        rows = {(ware_at(index), 1): [(ware_at(index + 1), 1, 1)] for index in range(12)}
        self.assert_none(shop_with(rows), [(ware_at(0), 1, 1)])

    def test_wares_that_do_not_matter_make_the_reason_no_longer(self):
        shop = shop_of(7, 3)
        shop.put("nut", 1, [("bolt", 1, 1)])
        wish = [(ware_at(index), 1, 3) for index in range(7)] + [("nut", 1, 1)]
        reason = self.assert_none(shop, wish)
        self.assertLess(steps_in(reason), 5)


    def test_two_sources_are_enough_for_each_step(self):
        shop = shop_of(2, 8)
        ware, other = ware_at(0), ware_at(1)
        wish = [(ware, 1, 8), (ware, 2, 6), (ware, 3, 8), (ware, 1, 5), (other, 9, 9)]
        self.assertEqual(self.assert_none(shop, wish), (other, [("wish", 4)], []))
        wish[4] = (ware, 6, 8)
        self.assertEqual(most_sources_in(self.assert_none(shop, wish)), 2)
        for shop, wish in tried_shops(2, 300):
            answer = settle(shop, wish)
            if answer[0] == "none":
                self.assertLessEqual(most_sources_in(answer[1]), 2)


class ByTrying(SettlingCase):
    def test_small_shops(self):
        counts = {"pick": 0, "none": 0}
        for shop, wish in tried_shops(1, 1500):
            answer = self.settled(shop, wish)
            counts[answer[0]] += 1
            good = [pick for pick in all_picks(shop) if is_met(shop, wish, pick)]
            best = best_of(shop, wish, good)
            if answer[0] == "none":
                self.assertEqual(good, [])
                continue
            self.assertEqual(dict(answer[1]), best)
            for pick in good:
                # Whichever other pick meets the wish has an older make where both part.
                self.assertIs(newer(shop, wish, best, pick), pick != best)
                self.assertIs(newer(shop, wish, pick, best), False)
        self.assertGreater(min(counts.values()), 300)

    def test_shops_of_more_wares(self):
        chance = random.Random(3)
        for _ in range(40):
            shop, wish = tried_shop(chance, [2, 1, 3, 2, 2, 1], 4, 1)
            answer = self.settled(shop, wish)
            good = [pick for pick in all_picks(shop) if is_met(shop, wish, pick)]
            best = best_of(shop, wish, good)
            self.assertEqual(dict(answer[1]) if answer[0] == "pick" else None, best)


class NearTheBound(SettlingCase):
    SIZES = [[2] * 12, [2] * 10 + [3] * 2, [3] * 8 + [1] * 4, [8] * 4 + [2] + [1] * 7, [6] * 5,
             [5] * 4 + [2] * 4 + [1] * 4, [1] * 7 + [2] + [8] * 4, [1] * 4 + [4] * 6 + [2, 1]]

    def test_shops_with_needs_by_chance(self):
        chance = random.Random(4)
        words = []
        for sizes in self.SIZES * 6:
            shop, _ = tried_shop(chance, sizes, chance.randint(2, 6), chance.randint(1, 4))
            wares = chance.sample(range(len(sizes)), min(8, len(sizes)))
            wish = [(ware_at(index), 1, sizes[index]) for index in wares]
            words.append(self.settled(shop, wish)[0])
        self.assertEqual(set(words), {"pick", "none"})

    def rising(self, wares, makes):
        """A shop in which each make needs a newer make of the next ware."""
        shop = shop_of(wares, makes)
        for index in range(wares - 1):
            for make in range(1, makes + 1):
                shop.take(ware_at(index), make)
                shop.put(ware_at(index), make, [(ware_at(index + 1), make + 1, 999)])
        return shop

    def test_makes_that_must_rise(self):
        for wares, makes in [(4, 8), (5, 6), (5, 5), (6, 4), (8, 3), (12, 2)]:
            shop = self.rising(wares, makes)
            for first in range(min(wares, 5)):
                wish = [(ware_at((first + step) % wares), 1, 999) for step in range(min(wares, 8))]
                answer = self.settled(shop, wish)
                self.assertEqual(answer[0], "pick" if wares <= makes else "none")
                if first == 0 and wares <= makes:
                    self.assertEqual(answer[1], [(ware_at(index), makes - wares + 1 + index)
                                                 for index in range(wares)])

    def test_halves_that_must_go_together(self):
        # last 1 goes with the lower halves of all the others alone, last 2 with the upper halves.
        rows = {(ware_at(index), make): [("last", 1, 2)] for index in range(4)
                for make in range(1, 9)}
        for make in (1, 2):
            rows["last", make] = [(ware_at(index), make * 4 - 3, make * 4) for index in range(4)]
        shop = shop_with(rows)
        wish = [(ware_at(0), 1, 8), (ware_at(1), 1, 4), (ware_at(2), 5, 8), (ware_at(3), 1, 8)]
        self.assert_none(shop, wish)
        wish[2] = (ware_at(2), 4, 8)
        self.assert_pick(shop, wish, [(ware_at(0), 4), (ware_at(1), 4), (ware_at(2), 4),
                                      (ware_at(3), 4), ("last", 1)])


class Same(SettlingCase):
    def test_asked_twice(self):
        for shop, wish in tried_shops(7, 200):
            self.assertEqual(settle(shop, wish), settle(shop, list(wish)))

    def test_a_shop_put_in_another_order(self):
        for shop, wish in tried_shops(8, 200):
            rows = [(ware, make) for ware in shop.wares() for make in shop.makes(ware)]
            other = Shop()
            for ware, make in rows[::2] + rows[1::2][::-1]:
                other.put(ware, make, shop.needs(ware, make))
            self.assertEqual(settle(shop, wish), settle(other, wish))

    def test_other_makes_taken_out_and_put_again(self):
        for shop, wish in tried_shops(9, 100):
            answer = settle(shop, wish)
            for ware in shop.wares():
                for make in shop.makes(ware):
                    needs = shop.needs(ware, make)
                    shop.take(ware, make)
                    shop.put(ware, make, needs)
            self.assertEqual(settle(shop, wish), answer)


class TheAskersOwn(SettlingCase):
    def test_what_is_handed_in_is_not_changed(self):
        for shop, wish in tried_shops(13, 100):
            before, needs = told(shop), copy.deepcopy(wish)
            settle(shop, wish)
            self.assertEqual(told(shop), before)
            self.assertEqual(wish, needs)

    def test_no_list_is_told_in_two_places(self):
        for shop, wish in tried_shops(14, 300):
            one, other = settle(shop, wish), settle(shop, wish)
            rows = list(lists_in(one)) + list(lists_in(other)) + [wish]
            self.assertEqual(len({id(row) for row in rows}), len(rows))

    def test_what_was_told_is_changed_by_the_asker(self):
        for shop, wish in tried_shops(15, 200):
            answer = settle(shop, wish)
            kept, before, needs = copy.deepcopy(answer), told(shop), list(wish)
            for row in list(lists_in(answer)):
                row.append("mine")
            for row in list(lists_in(answer)):
                row.clear()
            self.assertEqual(settle(shop, wish), kept)
            self.assertEqual(told(shop), before)
            self.assertEqual(wish, needs)

    def test_what_was_told_stays_when_the_shop_and_the_wish_change(self):
        for shop, wish in tried_shops(16, 100):
            answer = settle(shop, wish)
            kept = copy.deepcopy(answer)
            wish.clear()
            for ware in shop.wares():
                for make in shop.makes(ware):
                    shop.take(ware, make)
            self.assertEqual(settle(shop, wish), ("pick", [], []))
            self.assertEqual(answer, kept)

    def test_what_is_handed_in_is_read_as_it_is_when_it_is_asked(self):
        shop = shop_with({("nut", 1): [], ("nut", 2): []})
        wish = [("nut", 1, 2)]
        self.assert_pick(shop, wish, [("nut", 2)])
        shop.put("nut", 3, [])
        self.assert_pick(shop, wish, [("nut", 2)])
        wish[0] = ("nut", 1, 3)
        self.assert_pick(shop, wish, [("nut", 3)])
        shop.take("nut", 3)
        self.assert_pick(shop, wish, [("nut", 2)])
        shop.take("nut", 2)
        shop.put("nut", 2, [("bolt", 1, 1)])
        self.assert_pick(shop, wish, [("nut", 1)])
        wish.append(("bolt", 1, 1))
        self.assert_none(shop, wish)
        shop.put("bolt", 1, [])
        self.assert_pick(shop, wish, [("nut", 2), ("bolt", 1)])


class Refused(ShopCase):
    def test_no_wish(self):
        shop = shop_of(2, 2)
        for wish in NO_WISHES + things():
            with self.subTest(kind=type(wish)):
                self.assert_refused(BadWish, shop, settle, shop, wish)
                self.assert_refused(BadWish, shop, settle, Shop(), wish)

    def test_one_of_the_needs_is_of_any_kind(self):
        shop = shop_of(2, 2)
        for thing in things():
            with self.subTest(kind=type(thing)):
                self.assert_refused(BadWish, shop, settle, shop, [thing])
                self.assert_refused(BadWish, shop, settle, shop, [(ware_at(0), 1, 2), thing])
                self.assert_refused(BadWish, shop, settle, shop, [(ware_at(0), 1, thing)])

    def test_eight_needs_and_nine(self):
        shop = shop_with({("nut", 7): []})
        self.assertEqual(settle(shop, EIGHT), ("pick", [("nut", 7)], [[]]))
        self.assert_refused(BadWish, shop, settle, shop, EIGHT + EIGHT[:1])


if __name__ == "__main__":
    unittest.main()
