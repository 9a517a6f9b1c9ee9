"""Point [21]: what is an integer, a number, a name, a value, a column, a row."""

import unittest

from refusedahead.values import is_column, is_integer, is_name, is_number, is_row, is_value, value_fits
from tests.things import LONG_NUMBER, any_things, deep, odd_things

BOUND = 10 ** 12


class ValuesTest(unittest.TestCase):

    def check(self, tell, right, wrong):
        for thing in right:
            with self.subTest(thing=str(thing)[:60]):
                self.assertIs(tell(thing), True)
        for thing in wrong:
            with self.subTest(thing=str(thing)[:60]):
                self.assertIs(tell(thing), False)

    def test_is_integer(self):
        right = [0, 1, -1, BOUND, -BOUND, BOUND + 1, LONG_NUMBER, -LONG_NUMBER]
        self.check(is_integer, right, odd_things() + [None, "a"])

    def test_is_number(self):
        right = [0, 1, -1, 7, BOUND - 1, BOUND, 1 - BOUND, -BOUND]
        wrong = odd_things() + [None, "a", BOUND + 1, -BOUND - 1, LONG_NUMBER, -LONG_NUMBER]
        self.check(is_number, right, wrong)

    def test_is_name(self):
        right = ["a", "z", "az", "eightabc", "abcdefgh", "mnopqrst", "uvwxyz"]
        wrong = odd_things() + [None, 0, 1, "ninechars", "abcdefghi", "aé", "ª", "a" * 9]
        self.check(is_name, right, wrong)

    def test_is_value(self):
        right = [None, 0, 1, -1, LONG_NUMBER, -BOUND - 1, "a", "eightabc"]
        self.check(is_value, right, odd_things())

    def test_is_column(self):
        right = [
            ("n", 0, 0, True, False), ("eightabc", -BOUND, BOUND, False, False), ("n", -1, 1, True, True),
            ("n", BOUND, BOUND, False, True), ("n", -BOUND, -BOUND, False, True),
        ]
        wrong = any_things() + [
            ("n", 1, 0, True, False), ("n", 0, 0, 1, False), ("n", 0, 0, True, 0), ("n", 0, 0, None, False),
            ("n", False, 1, True, False), ("n", 0, True, True, False), ("", 0, 0, True, False),
            ("ninechars", 0, 0, True, False), ("N", 0, 0, True, False), (1, 0, 0, True, False),
            ("n", -BOUND - 1, 0, True, False), ("n", 0, BOUND + 1, True, False), ("n", None, 0, True, False),
            ("n", 0, None, True, False), ("n", "a", "b", True, False), ("n", 0, 0, True),
            ("n", 0, 0, True, False, False), ["n", 0, 0, True, False], ("n", LONG_NUMBER, LONG_NUMBER, True, True),
            (["n"], 0, 0, True, True), ("n", [0], 0, True, True), ("n", 0, 0, [True], True),
        ]
        self.check(is_column, right, wrong)

    def test_is_row(self):
        right = [{}, {"a": None}, {"a": 0, "b": "b"}, {"eightabc": LONG_NUMBER}, {"b": 1, "a": 2}]
        wrong = [thing for thing in any_things() if thing not in ({}, {"a": None})] + [
            {"a": True}, {"a": 1, "b": False}, {"": 1}, {"ninechars": 1}, {1: 1}, {None: None}, {"a": "A"},
            {"a": []}, {"a": (1,)}, {"a": {}}, {("a",): 1}, {"A": 1}, {True: 1}, [("a", 1)], deep(0, 3),
        ]
        self.check(is_row, right, wrong)

    def test_value_fits(self):
        for empty in (True, False):
            for words in (True, False):
                column = ("n", -3, 5, empty, words)
                self.assertIs(value_fits(column, None), empty)
                for word in ("a", "eightabc", "n"):
                    self.assertIs(value_fits(column, word), words)
                for number in range(-8, 9):
                    self.assertIs(value_fits(column, number), -3 <= number <= 5)
                for thing in odd_things() + [LONG_NUMBER, -LONG_NUMBER]:
                    self.assertIs(value_fits(column, thing), False)

    def test_value_fits_at_the_bounds(self):
        column = ("n", -BOUND, BOUND, False, False)
        found = [value_fits(column, n) for n in (-BOUND - 1, -BOUND, 0, BOUND, BOUND + 1)]
        self.assertEqual(found, [False, True, True, True, False])

    def test_truths_are_no_numbers(self):
        self.assertEqual([value_fits(("n", 0, 1, True, True), thing) for thing in (True, False)], [False, False])


if __name__ == "__main__":
    unittest.main()
