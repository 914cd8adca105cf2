"""pickfloor/stretches.py: promise 2, and promise 1 of the three questions."""

import unittest

from pickfloor.stretches import MOST_MAKE, is_make, is_need, is_ware, joined, within
from tests.things import things


class Wares(unittest.TestCase):
    def test_of_1_to_8_signs(self):
        for ware in ["a", "z", "m", "nut", "az", "aa", "eightsig", "zzzzzzzz", "abcdefgh", "none"]:
            with self.subTest(ware=ware):
                self.assertIs(is_ware(ware), True)

    def test_every_sign_from_a_to_z_at_every_place(self):
        for sign in "abcdefghijklmnopqrstuvwxyz":
            for place in range(8):
                ware = "q" * place + sign + "q" * (7 - place)
                self.assertIs(is_ware(ware), True, ware)

    def test_of_no_sign_and_of_9(self):
        for text in ["", "ninesigns", "aaaaaaaaa", "a" * 10, "a" * 5000]:
            with self.subTest(text=text):
                self.assertIs(is_ware(text), False)

    def test_another_sign_at_any_place(self):
        # "`" and "{" stand just beside a and z.
        for sign in "`{@[AZM019_- .,:~!/\n\t\r":
            for many in (1, 2, 3, 8):
                for place in range(many):
                    text = "q" * place + sign + "q" * (many - 1 - place)
                    self.assertIs(is_ware(text), False, repr(text))

    def test_no_text(self):
        for thing in [b"nut", ["n", "u", "t"], ("nut",), {"nut": 1}, ["nut"], 5, None, True]:
            with self.subTest(thing=thing):
                self.assertIs(is_ware(thing), False)


class Makes(unittest.TestCase):
    def test_the_most(self):
        self.assertEqual(MOST_MAKE, 999)
        self.assertIs(type(MOST_MAKE), int)

    def test_from_1_to_999(self):
        for make in range(1, 1000):
            self.assertIs(is_make(make), True, make)

    def test_below_and_beyond(self):
        for number in [0, -1, -5, -999, -(10 ** 30), 1000, 1001, 9999, 10 ** 30]:
            with self.subTest(number=number):
                self.assertIs(is_make(number), False)

    def test_true_and_false_are_none(self):
        self.assertIs(is_make(True), False)
        self.assertIs(is_make(False), False)

    def test_no_whole_number(self):
        for thing in ["5", "", "a", b"5", 5.0, 1.5, [5], (5,), {5: 5}, None]:
            with self.subTest(thing=thing):
                self.assertIs(is_make(thing), False)


class Needs(unittest.TestCase):
    def test_low_no_greater_than_high(self):
        for need in [("nut", 1, 999), ("nut", 3, 4), ("a", 1, 2), ("eightsig", 998, 999)]:
            with self.subTest(need=need):
                self.assertIs(is_need(need), True)

    def test_low_equal_to_high(self):
        for make in (1, 5, 999):
            self.assertIs(is_need(("nut", make, make)), True)

    def test_low_greater_than_high(self):
        for need in [("nut", 2, 1), ("nut", 999, 1), ("nut", 6, 5)]:
            with self.subTest(need=need):
                self.assertIs(is_need(need), False)

    def test_no_tuple(self):
        for thing in [["nut", 1, 2], "nut", "abc", {"nut": 1, "a": 2, "b": 3}, None, 5]:
            with self.subTest(thing=thing):
                self.assertIs(is_need(thing), False)

    def test_too_few_or_too_many_parts(self):
        for thing in [(), ("nut",), ("nut", 1), ("nut", 1, 2, 3), ("nut", 1, 2, None),
                      (("nut", 1, 2),), (1, 2)]:
            with self.subTest(thing=thing):
                self.assertIs(is_need(thing), False)

    def test_a_part_that_is_none(self):
        for ware in ["", "ninesigns", "Nut", None, 5, b"nut", ["nut"]]:
            with self.subTest(ware=ware):
                self.assertIs(is_need((ware, 1, 2)), False)
        for number in [0, -1, 1000, True, False, "1", None, 1.0, [1]]:
            with self.subTest(number=number):
                self.assertIs(is_need(("nut", number, 999)), False)
                self.assertIs(is_need(("nut", 1, number)), False)
                self.assertIs(is_need(("nut", number, number)), False)

    def test_parts_in_another_order(self):
        self.assertIs(is_need((1, 2, "nut")), False)
        self.assertIs(is_need((1, "nut", 2)), False)


class Anything(unittest.TestCase):
    def test_things_of_any_kind_are_told_false(self):
        for thing in things():
            for asked in (is_ware, is_make, is_need):
                with self.subTest(kind=type(thing), asked=asked.__name__):
                    self.assertIs(asked(thing), False)

    def test_things_of_any_kind_in_a_need(self):
        for thing in things():
            with self.subTest(kind=type(thing)):
                self.assertIs(is_need((thing, 1, 2)), False)
                self.assertIs(is_need(("nut", thing, 2)), False)
                self.assertIs(is_need(("nut", 1, thing)), False)

    def test_a_thing_of_one_kind_is_none_of_another(self):
        self.assertIs(is_make("nut"), False)
        self.assertIs(is_need("nut"), False)
        self.assertIs(is_ware(5), False)
        self.assertIs(is_need(5), False)
        self.assertIs(is_ware(("nut", 1, 2)), False)
        self.assertIs(is_make(("nut", 1, 2)), False)

    def test_what_is_asked_of_is_not_changed(self):
        rows = [["nut", 1, 2], {"nut": 5}]
        for asked in (is_ware, is_make, is_need):
            for row in rows:
                asked(row)
        self.assertEqual(rows, [["nut", 1, 2], {"nut": 5}])


class Joined(unittest.TestCase):
    def assert_joined(self, one, other, both):
        self.assertEqual(joined(one, other), both)
        self.assertEqual(joined(other, one), both)

    def test_that_overlap(self):
        self.assert_joined((1, 5), (3, 9), (3, 5))
        self.assert_joined((1, 998), (2, 999), (2, 998))

    def test_that_lie_apart(self):
        for one, other in [((1, 4), (5, 9)), ((1, 1), (2, 2)), ((1, 2), (900, 999))]:
            self.assertIs(joined(one, other), None)
            self.assertIs(joined(other, one), None)

    def test_that_meet_in_one_make(self):
        self.assert_joined((1, 5), (5, 9), (5, 5))
        self.assert_joined((1, 1), (1, 999), (1, 1))
        self.assert_joined((999, 999), (1, 999), (999, 999))

    def test_that_lie_one_in_the_other(self):
        self.assert_joined((1, 9), (3, 5), (3, 5))
        self.assert_joined((1, 9), (4, 4), (4, 4))
        self.assert_joined((1, 9), (1, 5), (1, 5))
        self.assert_joined((1, 9), (5, 9), (5, 9))

    def test_that_are_alike(self):
        self.assert_joined((2, 7), (2, 7), (2, 7))
        self.assert_joined((4, 4), (4, 4), (4, 4))

    def test_it_gives_a_tuple(self):
        self.assertIs(type(joined((1, 5), (3, 9))), tuple)

    def test_just_the_makes_within_both(self):
        stretches = [(low, high) for low in range(1, 7) for high in range(low, 7)]
        for one in stretches:
            for other in stretches:
                both = [n for n in range(1, 8) if within(n, *one) and within(n, *other)]
                pair = (both[0], both[-1]) if both else None
                self.assertEqual(joined(one, other), pair, (one, other))


class Within(unittest.TestCase):
    def test_at_both_ends_and_between(self):
        for make in (3, 4, 5, 6):
            self.assertIs(within(make, 3, 6), True)

    def test_one_beside_each_end(self):
        self.assertIs(within(2, 3, 6), False)
        self.assertIs(within(7, 3, 6), False)

    def test_far_off(self):
        self.assertIs(within(1, 3, 6), False)
        self.assertIs(within(999, 3, 6), False)

    def test_of_one_make(self):
        self.assertIs(within(4, 5, 5), False)
        self.assertIs(within(5, 5, 5), True)
        self.assertIs(within(6, 5, 5), False)

    def test_at_the_least_and_the_most(self):
        self.assertIs(within(1, 1, 999), True)
        self.assertIs(within(999, 1, 999), True)


if __name__ == "__main__":
    unittest.main()
