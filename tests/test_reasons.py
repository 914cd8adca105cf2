"""pickfloor/reasons.py: promises 8 to 10, and 14 and 1 of a wish, granted pairs and a reason."""

import copy
import random
import unittest

from pickfloor.errors import BadPick, BadWish
from pickfloor.reasons import holds
from tests.test_picks import EIGHT, NO_WISHES
from tests.things import Parts, Row, ShopCase, Text, shop_with, things, told
from tests.trying import (all_picks, is_met, makes_in, sources_of, stands, tried_shops)

WISH = [("nut", 1, 2), ("cap", 1, 3)]

# nut 2 and nut 1 both need a pin that does not go with cap 1, the only cap there is.
NUT_2 = ("pin", [("need", "nut", 2, 0), ("need", "cap", 1, 0)], [])
NUT_1 = ("pin", [("need", "cap", 1, 0), ("need", "nut", 1, 0)], [])
BY_NUT = ("nut", [("wish", 0)], [(2, NUT_2), (1, NUT_1)])
BY_CAP = ("cap", [("wish", 1)], [(1, BY_NUT)])

NO_PAIRS = [
    None, 0, True, "", "nut", (), {}, {"nut": 2}, (("nut", 2),), ("nut", 2), {("nut", 2)},
    ["nut"], [None], [2], [["nut", 2]], ["nu"], [("nut",)], [("nut", 2, 2)], [()], [("nut", 4)],
    [("nut", 0)], [("nut", "2")], [("nut", 2.0)], [("nut", True)], [("nut", [2])], [("Nut", 2)],
    [("bolt", 1)], [(2, "nut")], [(None, None)], [(["nut"], 2)], [("nut", 2), ("nut", 2)],
    [("nut", 2), ("nut", 1)], [("nut", 2), ("cap", 1), ("nut", 1)], [("nut", 2), None],
    [("nut", 2), ("bolt", 1)], [[("nut", 2)]], [("pin", 5), ("pin", 6)],
]


def small_shop():
    return shop_with({
        ("nut", 1): [("pin", 6, 9)], ("nut", 2): [("pin", 7, 9), ("cap", 1, 1)], ("nut", 3): [],
        ("cap", 1): [("pin", 1, 5)], ("pin", 5): [], ("pin", 6): [], ("pin", 7): [],
    })


class Holding(unittest.TestCase):
    def setUp(self):
        self.shop = small_shop()

    def assert_holds(self, wish, pairs, thing, answer=True):
        self.assertIs(holds(self.shop, wish, pairs, thing), answer)


class Sources(Holding):
    def test_of_a_wish(self):
        thing = ("nut", [("wish", 0)], [])
        self.assert_holds([("nut", 4, 9)], [], thing)
        self.assert_holds([("nut", 3, 9)], [], thing, False)
        self.assert_holds([("bolt", 1, 1)], [], ("bolt", [("wish", 0)], []))

    def test_of_a_wish_at_its_place(self):
        wish = [("nut", 1, 9), ("cap", 2, 2), ("nut", 9, 9)]
        self.assert_holds(wish, [], ("nut", [("wish", 2)], []))
        self.assert_holds(wish, [], ("cap", [("wish", 1)], []))
        for ware, place in [("nut", 0), ("nut", 1), ("nut", 3), ("nut", -1), ("cap", -2),
                            ("cap", 0), ("cap", 2), ("bolt", 1), ("nut", 10 ** 30)]:
            self.assert_holds(wish, [], (ware, [("wish", place)], []), False)

    def test_of_a_wish_for_another_ware(self):
        self.assert_holds([("cap", 9, 9)], [], ("nut", [("wish", 0)], []), False)
        self.assert_holds([("cap", 9, 9)], [], ("bolt", [("wish", 0)], []), False)

    def test_of_a_need(self):
        # With nut 1 and cap 1 a pin from 6 on and one up to 5.
        thing = ("pin", [("need", "nut", 1, 0), ("need", "cap", 1, 0)], [])
        self.assert_holds([], [("nut", 1), ("cap", 1)], thing)
        self.assert_holds([], [("cap", 1), ("nut", 1)], thing)
        self.assert_holds(WISH, [("pin", 6), ("cap", 1), ("nut", 1)], thing)
        for pairs in [[], [("nut", 1)], [("cap", 1)], [("nut", 2), ("cap", 1)],
                      [("nut", 3), ("cap", 1)], [("pin", 5)]]:
            self.assert_holds([], pairs, thing, False)

    def test_of_a_need_at_its_place(self):
        pairs = [("nut", 2)]
        shop = shop_with({("nut", 2): [("pin", 7, 9), ("cap", 1, 1)]})
        self.assertIs(holds(shop, [], pairs, ("pin", [("need", "nut", 2, 0)], [])), True)
        self.assertIs(holds(shop, [], pairs, ("cap", [("need", "nut", 2, 1)], [])), True)
        for ware, place in [("pin", 1), ("pin", 2), ("pin", -2), ("cap", 0), ("cap", -1),
                            ("cap", 2), ("nut", 0), ("nut", 1)]:
            thing = (ware, [("need", "nut", 2, place)], [])
            self.assertIs(holds(shop, [], pairs, thing), False)

    def test_of_a_need_of_another_make_or_ware(self):
        shop = shop_with({("nut", 1): [("pin", 1, 1)], ("nut", 2): [("pin", 1, 1)],
                          ("cap", 1): [("pin", 1, 1)]})
        for ware, make, answer in [("nut", 1, True), ("nut", 2, False), ("cap", 1, False),
                                   ("nut", 9, False), ("bolt", 1, False), ("pin", 1, False)]:
            thing = ("pin", [("need", ware, make, 0)], [])
            self.assertIs(holds(shop, [], [("nut", 1)], thing), answer)

    def test_of_a_pick(self):
        thing = ("nut", [("wish", 0), ("pick", "nut", 2)], [])
        self.assert_holds([("nut", 3, 9)], [("nut", 2)], thing)
        self.assert_holds([("nut", 1, 1)], [("nut", 2)], thing)
        self.assert_holds([("nut", 3, 9)], [("cap", 1), ("nut", 2)], thing)
        self.assert_holds([("nut", 2, 9)], [("nut", 2)], thing, False)
        self.assert_holds([("nut", 3, 9)], [("nut", 1)], thing, False)
        self.assert_holds([("nut", 3, 9)], [], thing, False)

    def test_of_a_pick_of_another_ware(self):
        pairs = [("nut", 2), ("cap", 1)]
        self.assert_holds([("nut", 3, 9)], pairs, ("nut", [("wish", 0), ("pick", "cap", 1)], []),
                          False)
        self.assert_holds([("bolt", 1, 1)], pairs,
                          ("bolt", [("pick", "nut", 2), ("wish", 0)], []), False)

    def test_one_at_least(self):
        self.assert_holds([("bolt", 1, 1)], [], ("bolt", [], []), False)
        self.assert_holds([], [], ("bolt", [], []), False)
        self.assert_holds([], [("nut", 2)], ("nut", [], []), False)
        self.assert_holds([], [("nut", 2)], ("bolt", [], []), False)

    def test_all_of_them_must_be_sources(self):
        wish = [("bolt", 1, 1)]
        for bad in [("wish", 1), ("need", "nut", 2, 0), ("pick", "nut", 2), ("pick", "bolt", 1),
                    ("need", "nut", 1, 0), None, "wish", ()]:
            for sources in [[bad], [("wish", 0), bad], [bad, ("wish", 0)]]:
                self.assert_holds(wish, [("nut", 2)], ("bolt", sources, []), False)

    def test_more_of_them_and_one_twice(self):
        wish = [("bolt", 1, 9), ("bolt", 1, 1), ("bolt", 2, 2)]
        for places in [[0], [0, 1, 2], [2, 1], [1, 1], [0, 0, 2, 0]]:
            sources = [("wish", place) for place in places]
            self.assert_holds(wish, [], ("bolt", sources, []))

    def test_with_a_word_or_a_part_that_is_off(self):
        wish = [("bolt", 1, 1), ("bolt", 1, 1)]
        for source in [("wish",), ("wish", 0, 0), ("Wish", 0), ("want", 0), ("need", 0), ("", 0),
                       ("pick", 0), (0, "wish"), ("wish", "0"), ("wish", None), ("wish", False),
                       ("wish", True), ("wish", 0.0), ("wish", [0]), (b"wish", 0), ["wish", 0],
                       ("wish", (0,)), (("wish", 0),), {"wish": 0}, {"wish", 0}, [], "wish", 0]:
            with self.subTest(source=source):
                self.assert_holds(wish, [], ("bolt", [source], []), False)

    def test_true_in_the_place_of_a_number(self):
        shop = shop_with({("nut", 1): [("cap", 1, 1), ("pin", 1, 1)]})
        pairs = [("nut", 1)]
        good = ("pin", [("need", "nut", 1, 1)], [])
        self.assertIs(holds(shop, [], pairs, good), True)
        for source in [("need", "nut", True, 1), ("need", "nut", 1, True),
                       ("need", "nut", 1.0, 1), ("need", "nut", 1, 1.0)]:
            self.assertIs(holds(shop, [], pairs, ("pin", [source], [])), False)
        wish = [("nut", 2, 2)]
        self.assertIs(holds(shop, wish, pairs, ("nut", [("wish", 0)], [])), True)
        for source in [("pick", "nut", True), ("pick", "nut", 1.0), ("wish", False)]:
            thing = ("nut", [("wish", 0), source], [])
            self.assertIs(holds(shop, wish, pairs, thing), False)


class Branches(Holding):
    def test_a_reason_of_several_steps(self):
        self.assert_holds(WISH, [], BY_CAP)
        self.assert_holds(WISH, [("cap", 1)], BY_NUT)
        self.assert_holds(WISH, [("cap", 1), ("nut", 2)], NUT_2)
        self.assert_holds(WISH, [("cap", 1), ("nut", 1)], NUT_1)

    def test_of_what_is_granted_further_out_only(self):
        self.assert_holds(WISH, [], BY_NUT, False)
        self.assert_holds(WISH, [("cap", 1)], NUT_2, False)
        self.assert_holds(WISH, [("cap", 1), ("nut", 1)], NUT_2, False)
        # What one branch grants is not granted in the next one.
        self.assert_holds(WISH, [("cap", 1)], ("nut", [("wish", 0)], [(2, NUT_2), (1, NUT_2)]), False)
        self.assert_holds(WISH, [("cap", 1)], ("nut", [("wish", 0)], [(2, NUT_1), (1, NUT_1)]), False)

    def test_of_another_wish(self):
        # With the wish for a nut up to 3 one more make is left.
        self.assert_holds([("nut", 1, 3), ("cap", 1, 3)], [], BY_CAP, False)
        self.assert_holds([("nut", 2, 2), ("cap", 1, 3)], [], BY_CAP, False)
        self.assert_holds(WISH[::-1], [], BY_CAP, False)
        self.assert_holds([], [], BY_CAP, False)

    def test_one_too_few_or_too_many(self):
        nut_3 = (3, ("nut", [("wish", 0), ("pick", "nut", 3)], []))
        for rows in [[], [(2, NUT_2)], [(1, NUT_1)], [nut_3, (2, NUT_2), (1, NUT_1)],
                     [(2, NUT_2), (2, NUT_2), (1, NUT_1)], [(2, NUT_2), (1, NUT_1), (1, NUT_1)]]:
            self.assert_holds(WISH, [("cap", 1)], ("nut", [("wish", 0)], rows), False)

    def test_one_where_no_make_is_left(self):
        self.assert_holds([("nut", 9, 9)], [], ("nut", [("wish", 0)], []))
        deeper = ("nut", [("wish", 0), ("pick", "nut", 3)], [])
        self.assert_holds([("nut", 9, 9)], [], ("nut", [("wish", 0)], [(3, deeper)]), False)

    def test_in_another_order(self):
        rows = [(1, NUT_1), (2, NUT_2)]
        self.assert_holds(WISH, [("cap", 1)], ("nut", [("wish", 0)], rows), False)

    def test_of_another_make(self):
        for make in (1, 3, 4, -2, 0, True, "2", None, 2.0, [2]):
            rows = [(make, NUT_2), (1, NUT_1)]
            self.assert_holds(WISH, [("cap", 1)], ("nut", [("wish", 0)], rows), False)
        for make in (2, True, 1.0, "1"):
            rows = [(2, NUT_2), (make, NUT_1)]
            self.assert_holds(WISH, [("cap", 1)], ("nut", [("wish", 0)], rows), False)

    def test_the_stretch_at_both_its_ends(self):
        wish = [("nut", 2, 3), ("bolt", 1, 1)]
        step = ("bolt", [("wish", 1)], [])
        for rows, answer in [([3, 2], True), ([3], False), ([2], False), ([3, 2, 1], False)]:
            thing = ("nut", [("wish", 0)], [(make, step) for make in rows])
            self.assert_holds(wish, [], thing, answer)

    def test_makes_left_by_all_the_sources(self):
        wish = [("nut", 1, 2), ("nut", 2, 3), ("bolt", 1, 1)]
        step = ("bolt", [("wish", 2)], [])
        for places, makes in [([0], [2, 1]), ([1], [3, 2]), ([0, 1], [2]), ([1, 0], [2])]:
            for rows in ([3, 2, 1], [2, 1], [3, 2], [2], []):
                sources = [("wish", place) for place in places]
                thing = ("nut", sources, [(make, step) for make in rows])
                self.assert_holds(wish, [], thing, rows == makes)

    def test_all_of_them_must_hold(self):
        bad = ("pin", [("need", "cap", 1, 0)], [])
        for rows in [[(2, NUT_2), (1, bad)], [(2, bad), (1, NUT_1)], [(2, bad), (1, bad)]]:
            thing = ("nut", [("wish", 0)], rows)
            self.assert_holds(WISH, [("cap", 1)], thing, False)
            self.assert_holds(WISH, [], ("cap", [("wish", 1)], [(1, thing)]), False)


class GrantedItself(Holding):
    def test_where_no_make_is_left(self):
        self.assert_holds([("nut", 9, 9)], [("nut", 2)], ("nut", [("wish", 0)], []))
        self.assert_holds([("nut", 1, 1), ("nut", 3, 3)], [("nut", 2)],
                          ("nut", [("wish", 0), ("wish", 1)], []))

    def test_where_makes_are_left(self):
        step = ("bolt", [("wish", 1)], [])
        wish = [("nut", 2, 3), ("bolt", 1, 1)]
        rows = [(3, step), (2, step)]
        self.assert_holds(wish, [("cap", 1)], ("nut", [("wish", 0)], rows))
        for make in (1, 2, 3):
            for branches in (rows, [], rows[:1], rows[1:]):
                self.assert_holds(wish, [("nut", make)], ("nut", [("wish", 0)], branches), False)

    def test_where_its_own_make_is_left(self):
        step = ("bolt", [("wish", 1)], [])
        wish = [("nut", 2, 3), ("bolt", 1, 1)]
        for sources in [[("pick", "nut", 2)], [("wish", 0), ("pick", "nut", 2)]]:
            for branches in ([], [(2, step)]):
                self.assert_holds(wish, [("nut", 2)], ("nut", sources, branches), False)

    def test_in_a_branch(self):
        wish = [("nut", 2, 2)]
        inner = ("nut", [("wish", 0)], [])
        self.assert_holds(wish, [], ("nut", [("wish", 0)], [(2, inner)]), False)
        inner = ("nut", [("wish", 0), ("pick", "nut", 2)], [])
        self.assert_holds(wish, [], ("nut", [("wish", 0)], [(2, inner)]), False)

    def test_needs_in_a_ring(self):
        shop = shop_with({("nut", 1): [("pin", 1, 1)], ("pin", 1): [("nut", 2, 2)],
                          ("nut", 2): []})
        last = ("nut", [("need", "pin", 1, 0), ("pick", "nut", 1)], [])
        middle = ("pin", [("need", "nut", 1, 0)], [(1, last)])
        self.assertIs(holds(shop, [("nut", 1, 1)], [], ("nut", [("wish", 0)], [(1, middle)])), True)
        self.assertIs(holds(shop, [("nut", 1, 1)], [("nut", 1)], middle), True)
        short = ("nut", [("need", "pin", 1, 0)], [])
        self.assertIs(holds(shop, [], [("nut", 1), ("pin", 1)], short), False)


class Anything(Holding):
    def test_in_the_place_of_a_reason(self):
        for thing in things() + ["nut", 5, [], BY_CAP[:2], BY_CAP + (1,), list(BY_CAP),
                                 ("nut", ("wish", 0), []), [BY_CAP], (BY_CAP,)]:
            with self.subTest(kind=type(thing)):
                self.assert_holds(WISH, [], thing, False)

    def test_in_the_place_of_each_part(self):
        for thing in things() + [1, 2, "nut", "pin", "wish", BY_NUT, WISH, BY_CAP]:
            with self.subTest(kind=type(thing)):
                for bad in [(thing, [("wish", 1)], [(1, BY_NUT)]),
                            ("cap", thing, [(1, BY_NUT)]), ("cap", [("wish", 1)], thing),
                            ("cap", [thing], [(1, BY_NUT)]),
                            ("cap", [("wish", 1), thing], [(1, BY_NUT)]),
                            ("cap", [("wish", 1)], [thing]),
                            ("cap", [("wish", 1)], [(1, BY_NUT), thing]), (thing, thing, thing)]:
                    self.assert_holds(WISH, [], bad, False)

    def test_in_the_place_of_a_part_of_a_source(self):
        shop = shop_with({("nut", 1): [("cap", 1, 1), ("bolt", 1, 1)]})
        wish, pairs = [("cap", 1, 1), ("bolt", 1, 1), ("nut", 2, 2)], [("nut", 1)]
        good = ("bolt", [("wish", 1), ("need", "nut", 1, 1)], [])
        self.assertIs(holds(shop, wish, pairs, good), True)
        good = ("nut", [("wish", 2), ("pick", "nut", 1)], [])
        self.assertIs(holds(shop, wish, pairs, good), True)
        for thing in things():
            with self.subTest(kind=type(thing)):
                for source in [(thing, 1), ("wish", thing), (thing, "nut", 1, 1), (thing,),
                               ("need", thing, 1, 1), ("need", "nut", thing, 1),
                               ("need", "nut", 1, thing), ("need", "nut", 1, 1, thing),
                               ("wish", 1, thing)]:
                    bad = ("bolt", [("wish", 1), source], [])
                    self.assertIs(holds(shop, wish, pairs, bad), False)
                for source in [(thing, "nut", 1), ("pick", thing, 1), ("pick", "nut", thing),
                               ("pick", "nut", 1, thing), ("pick", "nut")]:
                    bad = ("nut", [("wish", 2), source], [])
                    self.assertIs(holds(shop, wish, pairs, bad), False)

    def test_in_the_place_of_a_part_of_a_branch(self):
        for thing in things():
            with self.subTest(kind=type(thing)):
                for branch in [(thing, BY_NUT), (1, thing), (1, BY_NUT, thing), (1,), [1, BY_NUT],
                               (thing, thing), (BY_NUT, 1)]:
                    self.assert_holds(WISH, [], ("cap", [("wish", 1)], [branch]), False)

    def test_deep_down(self):
        for thing in things() + [BY_CAP, BY_NUT]:
            with self.subTest(kind=type(thing)):
                for inner in [thing, ("pin", thing, []), (thing, NUT_1[1], []),
                              ("pin", NUT_1[1], thing)]:
                    rows = [(2, NUT_2), (1, inner)]
                    step = ("nut", [("wish", 0)], rows)
                    self.assert_holds(WISH, [], ("cap", [("wish", 1)], [(1, step)]), False)

    def test_values_of_derived_classes(self):
        for bad in [Parts(BY_CAP), (Text("cap"), BY_CAP[1], BY_CAP[2]),
                    ("cap", Row(BY_CAP[1]), BY_CAP[2]), ("cap", BY_CAP[1], Row(BY_CAP[2])),
                    ("cap", [Parts(("wish", 1))], BY_CAP[2]), ("cap", [(Text("wish"), 1)], BY_CAP[2]),
                    ("cap", BY_CAP[1], [Parts((1, BY_NUT))])]:
            self.assert_holds(WISH, [], bad, False)

    def test_tuples_and_lists_in_each_others_place(self):
        ware, sources, branches = BY_CAP
        for bad in [[ware, sources, branches], (ware, tuple(sources), branches),
                    (ware, sources, tuple(branches)), (ware, [["wish", 1]], branches),
                    (ware, sources, [[1, BY_NUT]]), (ware, sources, [(1, list(BY_NUT))]),
                    (ware, {("wish", 1)}, branches), (ware, sources, {1: BY_NUT})]:
            self.assert_holds(WISH, [], bad, False)

    def test_a_thing_that_holds_itself(self):
        branches = []
        ring = ("cap", [("wish", 1)], branches)
        branches.append((1, ring))
        self.assert_holds(WISH, [], ring, False)
        sources = [("wish", 1)]
        sources.append(sources)
        self.assert_holds(WISH, [], ("cap", sources, [(1, BY_NUT)]), False)
        branches = []
        rows = [(2, ("pin", [("need", "nut", 2, 0)], branches)), (1, NUT_1)]
        branches.append((7, ("cap", [("wish", 1)], [(1, ("nut", [("wish", 0)], rows))])))
        self.assert_holds(WISH, [], ("nut", [("wish", 0)], rows), False)

    def test_a_thing_that_is_very_deep(self):
        deep = NUT_1
        for _ in range(20000):
            deep = ("cap", [("wish", 1)], [(1, deep)])
        self.assert_holds(WISH, [], deep, False)
        rows = []
        for _ in range(20000):
            rows = [rows]
        self.assert_holds(WISH, [], rows, False)
        self.assert_holds(WISH, [], ("cap", rows, []), False)
        self.assert_holds(WISH, [], ("cap", [("wish", 1)], rows), False)

    def test_the_same_step_in_two_places(self):
        step = ("bolt", [("wish", 1)], [])
        branch = [(2, step), (1, step)]
        self.assert_holds([("nut", 1, 2), ("bolt", 1, 1)], [], ("nut", [("wish", 0)], branch))


class ByTrying(unittest.TestCase):
    def a_reason(self, chance, shop, wish, granted):
        """A reason, or nearly one: the right steps for a ware by chance, with a slip at times."""
        rows = sources_of(shop, wish, granted)
        wares = sorted({need[0] for need in rows.values()}) or ["nowhere"]
        empty = [ware for ware in wares
                 if not makes_in(shop, ware, [need for need in rows.values() if need[0] == ware])]
        ware = chance.choice(empty or [w for w in wares if w not in granted] or wares)
        sources = [source for source, need in rows.items() if need[0] == ware]
        if chance.random() < 0.1:
            sources = chance.sample(sources, chance.randint(0, len(sources)))
        left = makes_in(shop, ware, [rows[source] for source in sources])
        if chance.random() < 0.03:
            left = left[1:]
        if ware in granted:
            return (ware, sources, [])
        return (ware, sources, [(make, self.a_reason(chance, shop, wish, {**granted, ware: make}))
                                for make in left])

    def test_what_holds_stands_and_shows_that_no_pick_meets_the_wish(self):
        chance = random.Random(11)
        counts = {True: 0, False: 0}
        for shop, wish in tried_shops(12, 400):
            pairs = []
            for ware in shop.wares():
                if chance.random() < 0.3:
                    pairs.append((ware, chance.choice(shop.makes(ware))))
            thing = self.a_reason(chance, shop, wish, dict(pairs))
            answer = holds(shop, wish, pairs, thing)
            self.assertIs(answer, stands(shop, wish, dict(pairs), thing))
            counts[answer] += 1
            if answer:
                for pick in all_picks(shop):
                    if all(pick.get(ware) == make for ware, make in pairs):
                        self.assertFalse(is_met(shop, wish, pick))
        self.assertGreater(min(counts.values()), 50)


class Refused(ShopCase):
    def setUp(self):
        self.shop = small_shop()

    def refused(self, error, wish, pairs, thing=BY_CAP):
        self.assert_refused(error, self.shop, holds, self.shop, wish, pairs, thing)

    def test_no_wish(self):
        for wish in NO_WISHES + things():
            with self.subTest(kind=type(wish)):
                self.refused(BadWish, wish, [])
                self.refused(BadWish, wish, [("nut", 2)], None)

    def test_one_of_the_needs_is_of_any_kind(self):
        for thing in things():
            with self.subTest(kind=type(thing)):
                self.refused(BadWish, [thing], [])
                self.refused(BadWish, [("nut", 1, 9), thing], [])
                self.refused(BadWish, [("nut", 1, thing)], [])

    def test_eight_needs_and_nine(self):
        self.assertIs(holds(self.shop, EIGHT, [], ("nut", [("wish", 7)], [])), False)
        far = EIGHT[:7] + [("nut", 9, 9)]
        self.assertIs(holds(self.shop, far, [], ("nut", [("wish", 7)], [])), True)
        self.refused(BadWish, far + far[7:], [])

    def test_no_pairs(self):
        for pairs in NO_PAIRS + things():
            with self.subTest(kind=type(pairs)):
                self.refused(BadPick, WISH, pairs)
                self.refused(BadPick, [], pairs, None)

    def test_one_of_the_pairs_is_of_any_kind(self):
        for thing in [thing for thing in things() if type(thing) is not tuple]:
            with self.subTest(kind=type(thing)):
                self.refused(BadPick, WISH, [thing])
                self.refused(BadPick, WISH, [("cap", 1), thing])
                self.refused(BadPick, WISH, [thing, ("cap", 1)])

    def test_a_part_of_a_pair_is_of_any_kind(self):
        for thing in things():
            with self.subTest(kind=type(thing)):
                self.refused(BadPick, WISH, [(thing, 1)])
                self.refused(BadPick, WISH, [("nut", thing)])
                self.refused(BadPick, WISH, [("nut", 2), ("cap", thing)])

    def test_no_wish_ahead_of_no_pairs(self):
        for pairs in NO_PAIRS:
            self.refused(BadWish, None, pairs)
            self.refused(BadWish, EIGHT + EIGHT, pairs, None)

    def test_pairs_of_all_wares(self):
        pairs = [("nut", 2), ("cap", 1), ("pin", 5)]
        thing = ("pin", [("need", "nut", 2, 0), ("pick", "pin", 5)], [])
        self.assertIs(holds(self.shop, [], pairs, thing), True)
        self.assertIs(holds(self.shop, [], pairs[::-1], thing), True)

    def test_a_pair_of_a_make_that_was_taken_out(self):
        self.shop.take("nut", 2)
        self.refused(BadPick, WISH, [("nut", 2)])


class TheAskersOwn(unittest.TestCase):
    def test_what_is_handed_in_is_not_changed(self):
        shop = small_shop()
        before = told(shop)
        wish, pairs, thing = list(WISH), [("cap", 1)], copy.deepcopy(BY_NUT)
        for _ in range(2):
            self.assertIs(holds(shop, wish, pairs, thing), True)
            self.assertIs(holds(shop, wish, [], thing), False)
        self.assertEqual((wish, pairs, thing), (WISH, [("cap", 1)], BY_NUT))
        self.assertEqual(told(shop), before)

    def test_what_is_handed_in_is_read_as_it_is_when_it_is_asked(self):
        shop, wish, pairs, thing = small_shop(), list(WISH), [("cap", 1)], copy.deepcopy(BY_NUT)
        self.assertIs(holds(shop, wish, pairs, thing), True)
        thing[2].reverse()
        self.assertIs(holds(shop, wish, pairs, thing), False)
        thing[2].reverse()
        pairs.clear()
        self.assertIs(holds(shop, wish, pairs, thing), False)
        pairs.append(("cap", 1))
        wish[0] = ("nut", 1, 3)
        self.assertIs(holds(shop, wish, pairs, thing), False)
        wish[0] = ("nut", 1, 2)
        shop.take("nut", 1)
        self.assertIs(holds(shop, wish, pairs, thing), False)
        shop.put("nut", 1, [("pin", 5, 9)])
        self.assertIs(holds(shop, wish, pairs, thing), False)
        shop.take("nut", 1)
        shop.put("nut", 1, [("pin", 6, 6)])
        self.assertIs(holds(shop, wish, pairs, thing), True)


if __name__ == "__main__":
    unittest.main()
