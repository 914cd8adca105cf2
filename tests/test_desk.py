"""pickfloor/desk.py: promise 13, and 14 and 1 of what is said at a desk."""

import random
import unittest

from pickfloor.desk import Desk
from pickfloor.settling import settle
from pickfloor.shop import Shop
from tests.things import shop_with, things, told, ware_at

NO_LINES = [
    "", " ", "  ", "\n", "\t", "sell nut 1", "Put nut 1", "PUT nut 1", "putt nut 1", "pu nut 1",
    "nut 1", "1", "put", "put ", "put nut", "put nut ", "put 1", "put nut 1 ", " put nut 1",
    "put  nut 1", "put nut  1", "put nut 1\n", "\nput nut 1", "put\tnut 1", "put nut\t1",
    "put nut 1\t", "put nut 0", "put nut 01", "put nut 007", "put nut 1000", "put nut 0999",
    "put nut 9999", "put nut -1", "put nut +1", "put nut 1.0", "put nut 1_0", "put nut one",
    "put nut 1,", "put nut x1", "put nut 1x", "put nut " + "9" * 5000, "put Nut 1", "put nut1 1",
    "put ninesigns 1", "put n-t 1", "put 1 nut", "put nut 1 pin", "put nut 1 pin 1",
    "put nut 1 pin 1 2 ", "put nut 1  pin 1 2", "put nut 1 pin  1 2", "put nut 1 pin 1 2 cap",
    "put nut 1 pin 1 2 cap 1", "put nut 1 pin 2 1", "put nut 1 pin 0 1", "put nut 1 pin 01 2",
    "put nut 1 pin 1 02", "put nut 1 pin 1 1000", "put nut 1 pin 1000 1000", "put nut 1 Pin 1 2",
    "put nut 1 1 2 pin", "put nut 1 pin 1 2 cap 2 1", "put nut 1 pin 1 2 3", "put nut 1 2",
    "put nut 1 pin 1 x", "put nut 1 nut 2 1", "put nut 1 pin 1 2\n", "put nut 1\npin 1 2",
    "take", "take ", "take nut", "take nut 5 ", "take  nut 5", "take nut  5", " take nut 5",
    "take nut 05", "take nut 0", "take nut 1000", "take nut x", "take Nut 5", "take nut 5 6",
    "take nut 5 pin 1 2", "take 5 nut", "take nut 5\n", "Take nut 5", "take nut -5",
    "wish", "wish ", "wish nut", "wish nut 1", "wish nut 1 2 ", "wish nut 1  2", "wish  nut 1 2",
    "wish nut 2 1", "wish nut 0 1", "wish nut 01 2", "wish nut 1 02", "wish nut 1 1000",
    "wish Nut 1 2", "wish nut 1 2 3", "wish nut 1 2 pin 1 2", "wish 1 2 nut", "wish nut 1 2\n",
    "wish nut 1 x", "wish nut 999 998", " wish nut 1 2", "Wish nut 1 2", "wish nut\t1 2",
    "forget ", " forget", "forget nut", "forget nut 1 2", "Forget", "forget\n", "forgets",
    "settle ", " settle", "settle nut", "Settle", "settle\n", "settle\tnow", "settl",
    "why", "why ", "why Nut", "why nut ", " why nut", "why  nut", "why nut pin", "why nut 5",
    "why 5", "why nut\n", "why ninesigns", "Why nut", "why\tnut", "done", "none", "pick", "no line",
]


def said(*lines):
    """A desk to which the lines were said, all of them answered by done."""
    desk = Desk()
    for line in lines:
        assert desk.say(line) == "done", line
    return desk


def state(desk):
    return (told(desk.held()), desk.wishes())


class DeskCase(unittest.TestCase):
    def assert_said(self, desk, *rows):
        """Each line is answered as the row says."""
        for line, answer in rows:
            given = desk.say(line)
            self.assertEqual(given, answer, line)
            self.assertIs(type(given), str)

    def assert_nothing_changes(self, desk, line, answer):
        before = state(desk)
        self.assertEqual(desk.say(line), answer, line)
        self.assertEqual(state(desk), before, line)


class Lines(DeskCase):
    def test_a_new_desk(self):
        self.assertEqual(state(Desk()), (([], [], []), []))
        self.assert_said(Desk(), ("settle", "pick"), ("why nut", "no pick"), ("forget", "done"))

    def test_put(self):
        desk = Desk()
        self.assert_said(desk, ("put nut 5", "done"), ("put nut 6 pin 1 2", "done"),
                         ("put nut 999 pin 3 3 cap 1 999", "done"), ("put eightsig 1", "done"))
        self.assertEqual(told(desk.held()), told(shop_with({
            ("nut", 5): [], ("nut", 6): [("pin", 1, 2)],
            ("nut", 999): [("pin", 3, 3), ("cap", 1, 999)], ("eightsig", 1): []})))
        self.assertEqual(desk.wishes(), [])

    def test_put_with_six_needs_in_their_order(self):
        desk = said("put nut 10 f 1 2 e 3 4 d 5 6 c 7 8 b 9 10 a 11 120")
        self.assertEqual(desk.held().needs("nut", 10),
                         [("f", 1, 2), ("e", 3, 4), ("d", 5, 6), ("c", 7, 8), ("b", 9, 10),
                          ("a", 11, 120)])

    def test_take(self):
        desk = said("put nut 5", "put nut 6", "put pin 1", "take nut 5", "take pin 1")
        self.assertEqual(told(desk.held()), told(shop_with({("nut", 6): []})))

    def test_wish_and_forget(self):
        desk = said("wish nut 1 999", "wish pin 3 3", "wish nut 1 999")
        self.assertEqual(desk.wishes(), [("nut", 1, 999), ("pin", 3, 3), ("nut", 1, 999)])
        self.assert_said(desk, ("forget", "done"))
        self.assertEqual(desk.wishes(), [])
        self.assert_said(desk, ("forget", "done"), ("wish cap 2 4", "done"))
        self.assertEqual(desk.wishes(), [("cap", 2, 4)])

    def test_forget_leaves_the_shop(self):
        desk = said("put nut 5 pin 1 2", "wish nut 5 5", "forget")
        self.assertEqual(told(desk.held()), told(shop_with({("nut", 5): [("pin", 1, 2)]})))

    def test_settle(self):
        desk = said("put nut 5 pin 1 9", "put nut 16", "put pin 3", "put pin 10", "wish nut 1 9")
        self.assert_said(desk, ("settle", "pick nut 5 pin 3"), ("wish nut 5 6", "done"),
                         ("settle", "pick nut 5 pin 3"), ("wish nut 6 6", "done"),
                         ("settle", "none"), ("forget", "done"), ("settle", "pick"),
                         ("wish bolt 1 1", "done"), ("settle", "none"))

    def test_settle_in_the_order_of_the_agenda(self):
        desk = said("put zoo 2 pin 1 1 arm 1 1", "put pin 1", "put arm 1", "put cap 3",
                    "wish zoo 1 2", "wish cap 1 3")
        self.assert_said(desk, ("settle", "pick zoo 2 cap 3 pin 1 arm 1"))

    def test_why(self):
        desk = said("put nut 5 pin 1 9", "put nut 16", "put nut 9 bolt 1 1", "put nut 100",
                    "put nut 1", "put pin 3", "put pin 10", "wish nut 1 15")
        self.assert_said(desk, ("settle", "pick nut 5 pin 3"), ("why nut", "against 100 16 9"),
                         ("why pin", "against 10"), ("why bolt", "no pick"), ("why zoo", "no pick"))

    def test_why_where_there_is_no_newer_make(self):
        desk = said("put nut 5", "put nut 4", "wish nut 1 9")
        self.assert_said(desk, ("why nut", "against"))

    def test_why_where_there_is_no_pick_or_another_one(self):
        desk = said("put nut 5", "put nut 6", "put pin 1")
        self.assert_said(desk, ("why nut", "no pick"), ("wish pin 1 1", "done"),
                         ("why nut", "no pick"), ("why pin", "against"),
                         ("wish nut 1 5", "done"), ("why nut", "against 6"),
                         ("wish nut 7 9", "done"), ("why nut", "no pick"), ("why pin", "no pick"))

    def test_of_the_present_shop_and_wish(self):
        desk = said("put nut 5", "wish nut 1 9")
        self.assert_said(desk, ("settle", "pick nut 5"), ("put nut 9 bolt 1 1", "done"),
                         ("settle", "pick nut 5"), ("why nut", "against 9"),
                         ("put bolt 1", "done"), ("why nut", "against"),
                         ("settle", "pick nut 9 bolt 1"), ("take bolt 1", "done"),
                         ("why bolt", "no pick"), ("take nut 9", "done"), ("why nut", "against"),
                         ("take nut 5", "done"), ("settle", "none"), ("why nut", "no pick"),
                         ("forget", "done"), ("settle", "pick"))

    def test_least_and_most_numbers(self):
        desk = said("put nut 1 pin 1 1", "put pin 1", "put nut 999 pin 999 999", "put pin 999",
                    "wish nut 1 999")
        self.assert_said(desk, ("settle", "pick nut 999 pin 999"), ("take pin 999", "done"),
                         ("settle", "pick nut 1 pin 1"), ("why nut", "against 999"))

    def test_asking_changes_nothing(self):
        desk = said("put nut 5 pin 1 9", "put nut 9", "put pin 3", "wish nut 1 8")
        for line, answer in [("settle", "pick nut 5 pin 3"), ("why nut", "against 9"),
                             ("why bolt", "no pick")] * 2:
            self.assert_nothing_changes(desk, line, answer)

    def test_two_desks(self):
        one, other = said("put nut 5", "wish nut 5 5"), said("put nut 6")
        self.assert_said(one, ("settle", "pick nut 5"))
        self.assert_said(other, ("settle", "pick"), ("wish nut 1 9", "done"),
                         ("settle", "pick nut 6"))
        self.assertEqual(one.wishes(), [("nut", 5, 5)])


class NoLines(DeskCase):
    def test_any_other_line(self):
        desk = said("put nut 5 pin 1 9", "put pin 3", "wish nut 1 9")
        for line in NO_LINES:
            with self.subTest(line=line[:40]):
                self.assert_nothing_changes(desk, line, "no line")
        self.assert_said(desk, ("settle", "pick nut 5 pin 3"))

    def test_to_a_new_desk_and_a_full_one(self):
        full = Desk()
        for index in range(12):
            for make in range(1, 9):
                full.say(f"put {ware_at(index)} {make}")
        for line in NO_LINES:
            self.assert_nothing_changes(Desk(), line, "no line")
            self.assert_nothing_changes(full, line, "no line")

    def test_no_text(self):
        desk = said("put nut 5")
        for thing in [thing for thing in things() if type(thing) is not str]:
            with self.subTest(kind=type(thing)):
                self.assert_nothing_changes(desk, thing, "no line")

    def test_no_line_ahead_of_what_would_be_refused(self):
        desk = said("put nut 5", *["wish nut 1 9"] * 8)
        for line in ["put nut 5 nut 2 1", "put nut 5 pin 1", "wish nut 2 1", "take pin 05",
                     "put a 1 b 1 1 b 1 1 b 2 1", "put a 1 b 1 1 c 1 1 d 1 1 e 1 1 f 1 1 g 1 1 h 1"]:
            self.assert_nothing_changes(desk, line, "no line")


class Refused(DeskCase):
    def setUp(self):
        self.desk = said("put nut 5", "put pin 1 nut 1 2", "wish nut 1 9")

    def refused(self, answer, *lines):
        for line in lines:
            self.assert_nothing_changes(self.desk, line, answer)

    def test_bad_need(self):
        self.refused("bad need", "put nut 6 nut 1 2", "put nut 6 pin 1 2 pin 1 2",
                     "put nut 6 pin 1 2 cap 1 1 pin 3 4", "put nut 6 pin 1 2 nut 6 6",
                     "put nut 6 a 1 1 b 1 1 c 1 1 d 1 1 e 1 1 f 1 1 g 1 1")

    def test_twice(self):
        self.refused("twice", "put nut 5", "put nut 5 pin 1 2", "put pin 1")

    def test_bad_need_ahead_of_twice(self):
        self.refused("bad need", "put nut 5 nut 1 2")

    def test_full_of_wares(self):
        for index in range(10):
            self.desk.say(f"put {ware_at(index)} 1")
        self.refused("full", "put cap 1", "put bolt 5 nut 1 2")
        self.refused("bad need", "put cap 1 cap 1 1")
        self.assert_said(self.desk, ("put nut 7", "done"), ("take pin 1", "done"),
                         ("put cap 1", "done"))

    def test_full_of_makes(self):
        for make in range(11, 18):
            self.desk.say(f"put nut {make}")
        self.refused("full", "put nut 18", "put nut 1 pin 1 2")
        self.refused("twice", "put nut 17")
        self.assert_said(self.desk, ("put pin 18", "done"), ("take nut 17", "done"),
                         ("put nut 18", "done"))

    def test_no_make(self):
        self.refused("no make", "take nut 6", "take cap 1", "take pin 5", "take nut 999")
        self.assert_said(self.desk, ("take nut 5", "done"), ("take nut 5", "no make"))

    def test_bad_wish(self):
        for _ in range(7):
            self.assert_said(self.desk, ("wish pin 1 1", "done"))
        self.assertEqual(len(self.desk.wishes()), 8)
        self.refused("bad wish", "wish pin 1 1", "wish cap 1 999", "wish nut 1 9")
        self.assert_said(self.desk, ("settle", "none"), ("forget", "done"),
                         ("wish pin 1 1", "done"))
        self.assertEqual(self.desk.wishes(), [("pin", 1, 1)])


class HeldAndWishes(DeskCase):
    def setUp(self):
        self.desk = said("put nut 5 pin 1 9", "put nut 9", "put pin 3", "wish nut 1 8",
                         "wish pin 3 3")

    def test_their_kinds(self):
        self.assertIs(type(self.desk.held()), Shop)
        self.assertIs(type(self.desk.wishes()), list)
        self.assertIs(type(self.desk.wishes()[0]), tuple)

    def test_they_settle_as_the_desk_does(self):
        answer = settle(self.desk.held(), self.desk.wishes())
        self.assertEqual(answer[:2], ("pick", [("nut", 5), ("pin", 3)]))
        self.assertEqual(self.desk.say("settle"), "pick nut 5 pin 3")

    def test_what_was_told_is_changed_by_the_asker(self):
        before = state(self.desk)
        for _ in range(2):
            shop, wish = self.desk.held(), self.desk.wishes()
            shop.take("nut", 5)
            shop.put("cap", 1, [])
            wish.reverse()
            wish.append(("bolt", 1, 1))
            self.assertEqual(state(self.desk), before)
        wish.clear()
        self.assertEqual(self.desk.say("settle"), "pick nut 5 pin 3")

    def test_what_was_told_stays_when_more_is_said(self):
        shop, wish = self.desk.held(), self.desk.wishes()
        before = told(shop)
        for line in ["take nut 5", "put nut 5", "take pin 3", "put cap 2", "wish cap 2 2", "forget",
                     "wish nut 5 5"]:
            self.assertEqual(self.desk.say(line), "done")
            self.assertEqual(told(shop), before)
            self.assertEqual(wish, [("nut", 1, 8), ("pin", 3, 3)])

    def test_each_is_a_new_one(self):
        self.assertIsNot(self.desk.held(), self.desk.held())
        self.assertIsNot(self.desk.wishes(), self.desk.wishes())


class ByTrying(DeskCase):
    def line(self, chance):
        wares = ["nut", "pin", "cap", "arm"]
        ware, other = chance.sample(wares, 2)
        low, high = sorted([chance.randint(1, 3), chance.randint(1, 4)])
        return chance.choice([
            f"put {ware} {low}", f"put {ware} {high} {other} {low} {high}", f"put {ware} {high}",
            f"take {ware} {low}", f"wish {ware} {low} {high}", "settle", f"why {ware}",
        ] + ["forget"] * (chance.random() < 0.3))

    def answer_of(self, desk, line):
        answer = settle(desk.held(), desk.wishes())
        if answer[0] == "none":
            return "none" if line == "settle" else "no pick"
        if line == "settle":
            return " ".join(["pick"] + [f"{ware} {make}" for ware, make in answer[1]])
        for pair, against in zip(answer[1], answer[2]):
            if pair[0] == line[4:]:
                return " ".join(["against"] + [str(make) for make, _ in against])
        return "no pick"

    def test_settle_and_why_as_settle_tells_them(self):
        chance = random.Random(21)
        answers = set()
        for _ in range(60):
            desk = Desk()
            for _ in range(30):
                line = self.line(chance)
                if line.split(" ")[0] in ("settle", "why"):
                    answer = self.answer_of(desk, line)
                    self.assertEqual(desk.say(line), answer)
                    answers.add(answer)
                else:
                    desk.say(line)
        self.assertGreater(len(answers), 20)

    def test_a_shop_near_the_bound(self):
        desk = Desk()
        for index in range(12):
            for make in (1, 2):
                needs = "".join(f" {ware_at(other)} {make} 2" for other in range(index + 1, 12)[:6])
                desk.say(f"put {ware_at(index)} {make}{needs}")
        for index in range(8):
            desk.say(f"wish {ware_at(index)} 1 2")
        self.assertEqual(desk.say("settle"),
                         " ".join(["pick"] + [f"{ware_at(index)} 2" for index in range(12)]))
        desk.say(f"take {ware_at(11)} 2")
        self.assertEqual(desk.say("settle"),
                         " ".join(["pick"] + [f"{ware_at(index)} 1" for index in range(12)]))
        self.assertEqual(desk.say(f"why {ware_at(0)}"), "against 2")
        self.assertEqual(desk.say(f"why {ware_at(11)}"), "against")


if __name__ == "__main__":
    unittest.main()
