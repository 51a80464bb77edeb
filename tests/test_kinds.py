"""Promises [3] and [5]: names and items."""

import unittest

from everlit.kinds import is_item, is_light, is_name, is_reserve, is_twin, reserve_of, signal_of, twin_of
from tests.samples import STRANGE

NAMES = ["a", "z", "abcdefgh", "zzzzzzzz", "fibre", "band", "signal", "twin", "up"]
NO_NAMES = [
    "", "A", "aB", "abcdefghi", "a1", "1", "0", "a_b", "a-b", " a", "a ", "a b", "a\n", "\n", "`", "{",
    "a+b", "a*b", "+", "*", "++", "a,b",
]


class KindsTest(unittest.TestCase):
    def test_names(self):
        for name in NAMES:
            with self.subTest(name=name):
                self.assertIs(is_name(name), True)
                self.assertIs(is_light(name), True)
                self.assertIs(is_item(name), True)
                self.assertIs(is_twin(name), False)
                self.assertIs(is_reserve(name), False)

    def test_twins_and_reserves(self):
        for name in NAMES:
            for item, twin in ((name + "+", True), (name + "*", False)):
                with self.subTest(item=item):
                    self.assertIs(is_item(item), True)
                    self.assertIs(is_name(item), False)
                    self.assertIs(is_light(item), False)
                    self.assertIs(is_twin(item), twin)
                    self.assertIs(is_reserve(item), not twin)

    def test_no_names_and_no_items(self):
        for value in NO_NAMES:
            for mark in ("", "+", "*"):
                with self.subTest(value=value, mark=mark):
                    self.assertIs(is_name(value + mark), False)
                    self.assertIs(is_light(value + mark), False)
                    if value not in ("", "a"):
                        self.assertIs(is_item(value + mark), False)
                        self.assertIs(is_twin(value + mark), False)
                        self.assertIs(is_reserve(value + mark), False)

    def test_two_marks(self):
        for value in ("a++", "a**", "a+*", "a*+", "+", "*", "+a", "*a", "abcdefghi+", "a +", "a+ "):
            for check in (is_name, is_item, is_light, is_twin, is_reserve):
                with self.subTest(value=value, check=check.__name__):
                    self.assertIs(check(value), False)

    def test_other_kinds_of_values(self):
        for value in STRANGE:
            if value == "a":
                continue
            for check in (is_name, is_item, is_light, is_twin, is_reserve):
                with self.subTest(check=check.__name__):
                    self.assertIs(check(value), False)

    def test_items_of_a_signal(self):
        for name in NAMES:
            with self.subTest(name=name):
                self.assertEqual(twin_of(name), name + "+")
                self.assertEqual(reserve_of(name), name + "*")
                for item in (name, twin_of(name), reserve_of(name)):
                    self.assertEqual(signal_of(item), name)

    def test_arguments_by_name(self):
        for check in (is_name, is_item, is_light, is_twin, is_reserve):
            self.assertIs(check(value="?"), False)
        self.assertEqual(signal_of(item="a*"), "a")
        self.assertEqual((twin_of(name="a"), reserve_of(name="a")), ("a+", "a*"))
