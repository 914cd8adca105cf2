"""The interface: names, arguments and where they are defined; and the size of the files."""

import ast
import inspect
import os
import unittest

import pickfloor
from pickfloor import desk, errors, picks, reasons, settling, shop, stretches

FOLDER = os.path.dirname(pickfloor.__file__)
LIBRARY = ["collections", "heapq", "itertools", "math"]


def files():
    return sorted(name for name in os.listdir(FOLDER) if name != "__pycache__")


def text_of(name):
    with open(os.path.join(FOLDER, name), encoding="utf-8", newline="") as file:
        return file.read()


def arguments(function):
    return list(inspect.signature(function).parameters)


class Interface(unittest.TestCase):
    def assert_methods(self, kind, rows):
        self.assertEqual(arguments(kind), [])
        for name, listed in rows:
            with self.subTest(name=name):
                self.assertIn(name, vars(kind))
                self.assertEqual(arguments(vars(kind)[name]), listed)

    def test_functions_and_their_arguments(self):
        for file, name, listed in [
                (stretches, "is_ware", ["thing"]), (stretches, "is_make", ["thing"]),
                (stretches, "is_need", ["thing"]), (stretches, "joined", ["one", "other"]),
                (stretches, "within", ["make", "low", "high"]),
                (picks, "agenda", ["shop", "wish", "pick"]),
                (picks, "meets", ["shop", "wish", "pick"]),
                (picks, "newer", ["shop", "wish", "one", "other"]),
                (reasons, "holds", ["shop", "wish", "pairs", "thing"]),
                (settling, "settle", ["shop", "wish"])]:
            with self.subTest(name=name):
                function = getattr(file, name)
                self.assertEqual(arguments(function), listed)
                self.assertEqual(function.__module__, file.__name__)

    def test_numbers(self):
        for file, name, number in [
                (stretches, "MOST_MAKE", 999), (shop, "MOST_WARES", 12), (shop, "MOST_MAKES", 8),
                (shop, "MOST_NEEDS", 6), (picks, "MOST_WISHES", 8)]:
            with self.subTest(name=name):
                self.assertEqual(getattr(file, name), number)
                self.assertIs(type(getattr(file, name)), int)

    def test_classes_are_defined_in_their_files(self):
        self.assertEqual(shop.Shop.__module__, "pickfloor.shop")
        self.assertEqual(desk.Desk.__module__, "pickfloor.desk")
        self.assertEqual(errors.PickError.__module__, "pickfloor.errors")

    def test_a_shop_defines_its_methods_itself(self):
        self.assert_methods(shop.Shop, [
            ("put", ["self", "ware", "make", "needs"]), ("take", ["self", "ware", "make"]),
            ("makes", ["self", "ware"]), ("needs", ["self", "ware", "make"]), ("wares", ["self"])])

    def test_a_desk_defines_its_methods_itself(self):
        self.assert_methods(desk.Desk, [
            ("say", ["self", "line"]), ("held", ["self"]), ("wishes", ["self"])])

    def test_arguments_by_their_names(self):
        made = shop.Shop()
        made.put(needs=[("pin", 1, 2)], make=5, ware="nut")
        self.assertEqual(made.makes(ware="nut"), [5])
        self.assertEqual(made.needs(make=5, ware="nut"), [("pin", 1, 2)])
        made.take(make=5, ware="nut")
        self.assertIs(stretches.is_ware(thing="nut"), True)
        self.assertIs(stretches.is_make(thing=5), True)
        self.assertIs(stretches.is_need(thing=("nut", 1, 2)), True)
        self.assertEqual(stretches.joined(one=(1, 5), other=(5, 9)), (5, 5))
        self.assertIs(stretches.within(make=5, low=5, high=9), True)

    def test_arguments_by_their_names_of_picks_and_reasons(self):
        made, wish, pick = shop.Shop(), [("nut", 1, 2)], {"nut": 1}
        made.put("nut", 1, [])
        self.assertEqual(picks.agenda(pick=pick, wish=wish, shop=made), ["nut"])
        self.assertIs(picks.meets(pick=pick, wish=wish, shop=made), True)
        self.assertIs(picks.newer(other=pick, one=pick, wish=wish, shop=made), False)
        thing = ("nut", [("wish", 0)], [])
        self.assertIs(reasons.holds(thing=thing, pairs=[], wish=wish, shop=made), False)
        self.assertEqual(settling.settle(wish=wish, shop=made), ("pick", [("nut", 1)], [[]]))
        self.assertEqual(desk.Desk().say(line="forget"), "done")


class Files(unittest.TestCase):
    def test_only_files_of_python(self):
        self.assertEqual([name for name in files() if not name.endswith(".py")], [])

    def test_sizes_and_signs(self):
        for name in files():
            with self.subTest(name=name):
                lines = text_of(name).split("\n")
                self.assertLessEqual(len(lines), 399)
                self.assertLessEqual(max(len(line) for line in lines), 120)
                self.assertEqual([s for s in text_of(name) if s != "\n" and not " " <= s <= "~"], [])

    def test_functions_of_40_lines_at_the_most(self):
        for name in files():
            for node in ast.walk(ast.parse(text_of(name))):
                if isinstance(node, ast.FunctionDef):
                    self.assertLessEqual(node.end_lineno - node.lineno + 1, 40, node.name)

    def test_imports_only_from_files_of_the_package_and_what_may_stand_beside_them(self):
        for name in files():
            for node in ast.walk(ast.parse(text_of(name))):
                self.assertNotIsInstance(node, ast.Import, name)
                if isinstance(node, ast.ImportFrom):
                    self.assertEqual(node.level, 0, name)
                    if node.module not in LIBRARY:
                        self.assertTrue(node.module.startswith("pickfloor."), node.module)


if __name__ == "__main__":
    unittest.main()
