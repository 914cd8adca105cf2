"""The interface: names, arguments and where they are defined; and the size of the files."""

import ast
import inspect
import os
import unittest

import pickfloor
from pickfloor import shop, stretches

FOLDER = os.path.dirname(pickfloor.__file__)
LIBRARY = ["collections", "heapq", "itertools", "math"]


def files():
    return sorted(name for name in os.listdir(FOLDER) if name != "__pycache__")


def text_of(name):
    with open(os.path.join(FOLDER, name), encoding="utf-8", newline="") as file:
        return file.read()


def arguments(function):
    return list(inspect.signature(function).parameters)


class Interface(unittest.TestCase):
    def test_functions_and_their_arguments(self):
        for name, listed in [("is_ware", ["thing"]), ("is_make", ["thing"]),
                             ("is_need", ["thing"]), ("joined", ["one", "other"]),
                             ("within", ["make", "low", "high"])]:
            with self.subTest(name=name):
                function = getattr(stretches, name)
                self.assertEqual(arguments(function), listed)
                self.assertEqual(function.__module__, "pickfloor.stretches")

    def test_a_shop_defines_its_methods_itself(self):
        self.assertEqual(shop.Shop.__module__, "pickfloor.shop")
        self.assertEqual(arguments(shop.Shop), [])
        for name, listed in [("put", ["self", "ware", "make", "needs"]),
                             ("take", ["self", "ware", "make"]), ("makes", ["self", "ware"]),
                             ("needs", ["self", "ware", "make"]), ("wares", ["self"])]:
            with self.subTest(name=name):
                self.assertIn(name, vars(shop.Shop))
                self.assertEqual(arguments(vars(shop.Shop)[name]), listed)

    def test_arguments_by_their_names(self):
        made = shop.Shop()
        made.put(needs=[("pin", 1, 2)], make=5, ware="nut")
        self.assertEqual(made.makes(ware="nut"), [5])
        self.assertEqual(made.needs(make=5, ware="nut"), [("pin", 1, 2)])
        made.take(make=5, ware="nut")
        self.assertIs(stretches.is_ware(thing="nut"), True)
        self.assertIs(stretches.is_make(thing=5), True)
        self.assertIs(stretches.is_need(thing=("nut", 1, 2)), True)
        self.assertEqual(stretches.joined(one=(1, 5), other=(5, 9)), (5, 5))
        self.assertIs(stretches.within(make=5, low=5, high=9), True)


class Files(unittest.TestCase):
    def test_only_files_of_python(self):
        self.assertEqual([name for name in files() if not name.endswith(".py")], [])

    def test_sizes_and_signs(self):
        for name in files():
            with self.subTest(name=name):
                lines = text_of(name).split("\n")
                self.assertLessEqual(len(lines), 399)
                self.assertLessEqual(max(len(line) for line in lines), 120)
                self.assertEqual([s for s in text_of(name) if s != "\n" and not " " <= s <= "~"], [])

    def test_functions_of_40_lines_at_the_most(self):
        for name in files():
            for node in ast.walk(ast.parse(text_of(name))):
                if isinstance(node, ast.FunctionDef):
                    self.assertLessEqual(node.end_lineno - node.lineno + 1, 40, node.name)

    def test_imports_only_from_files_of_the_package_and_what_may_stand_beside_them(self):
        for name in files():
            for node in ast.walk(ast.parse(text_of(name))):
                self.assertNotIsInstance(node, ast.Import, name)
                if isinstance(node, ast.ImportFrom):
                    self.assertEqual(node.level, 0, name)
                    if node.module not in LIBRARY:
                        self.assertTrue(node.module.startswith("pickfloor."), node.module)


if __name__ == "__main__":
    unittest.main()
