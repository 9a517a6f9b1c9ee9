"""Point [41]: cells."""

import itertools
import random
import unittest

from refusedahead.cells import cell_of, cells_of, is_in, many_in, met, value_for
from tests.makers import make_test
from tests.test_asks import right_answer
from tests.things import LONG_NUMBER, odd_things

BOUND = 10 ** 12
SHARE = ("asks", "n", (("over", 12),), ">", 3)


def stretches(numbers):
    """The ascending tuple of the spans of ascending numbers."""
    found = []
    for number in numbers:
        if found and found[-1][1] == number - 1:
            found[-1] = (found[-1][0], number)
        else:
            found.append((number, number))
    return tuple(found)


def right_cells(column, tests):
    """The cells of a small column, by going through all of its values."""
    _, low, high, empty, words = column
    values = ([None] if empty else []) + list(range(low, high + 1)) + (["a"] if words else [])
    lots = {}
    for value in values:
        lots.setdefault(tuple([right_answer(test, value) for test in tests]), []).append(value)
    return [(None in lot, "a" in lot, stretches([one for one in lot if isinstance(one, int)]))
            for lot in lots.values()]


def make_tests(source, many):
    return [make_test(source, ("n",)) for _ in range(many)]


class CellsTest(unittest.TestCase):

    def test_by_going_through_all_values(self):
        source = random.Random(51)
        for _ in range(600):
            low = source.randrange(-12, 8)
            column = ("n", low, low + source.randrange(25), source.random() < 0.5, source.random() < 0.5)
            tests = make_tests(source, source.randrange(4))
            kept = list(tests)
            right = right_cells(column, tests)
            for _ in range(2):
                found = cells_of(column, tests)
                self.assertEqual(found, right, (column, tests))
                found.reverse()
            self.assertEqual(tests, kept)
            self.check_values(column, tests, right)

    def check_values(self, column, tests, cells):
        _, low, high, empty, words = column
        values = ([None] if empty else []) + list(range(low, high + 1)) + (["a", "ten"] if words else [])
        for value in values:
            having = [cell for cell in cells if is_in(cell, value)]
            self.assertEqual(having, [cell_of(column, tests, value)])
        first = [value for value in values if value != "ten"]
        for cell in cells:
            lot = [value for value in first if is_in(cell, value)]
            self.assertEqual(value_for(cell), lot[0])
            self.assertEqual(many_in(cell), len([value for value in lot if isinstance(value, int)]))

    def test_no_test(self):
        for empty, words in itertools.product((True, False), repeat=2):
            self.assertEqual(cells_of(("n", -BOUND, BOUND, empty, words), []), [(empty, words, ((-BOUND, BOUND),))])

    def test_words_and_integers_in_one_cell(self):
        column = ("n", 0, 3, True, True)
        self.assertEqual(cells_of(column, [("empty", "n")]), [(True, False, ()), (False, True, ((0, 3),))])
        self.assertEqual(cells_of(column, [("number", "n")]), [
            (True, False, ()), (False, False, ((0, 3),)), (False, True, ())])
        self.assertEqual(cells_of(column, [SHARE]), [
            (True, False, ()), (False, True, ((0, 0),)), (False, False, ((1, 3),))])

    def test_the_same_test_twice(self):
        column = ("n", -5, 20, True, False)
        self.assertEqual(cells_of(column, [SHARE, SHARE]), cells_of(column, [SHARE]))

    def test_wide_columns(self):
        column = ("n", -BOUND, BOUND, True, True)
        self.assertEqual(cells_of(column, [SHARE]), [
            (True, False, ()), (False, False, ((-BOUND, -1), (4, BOUND))), (False, True, ((0, 0),)),
            (False, False, ((1, 3),))])
        one = ("asks", "n", (("times", 3), ("plus", -7)), "=", 5)
        self.assertEqual(cells_of(column, [one])[1:3], [
            (False, False, ((-BOUND, 3), (5, BOUND))), (False, False, ((4, 4),))])
        last = ("asks", "n", (), ">=", BOUND)
        self.assertEqual(cells_of(column, [last])[1:3], [
            (False, False, ((-BOUND, BOUND - 1),)), (False, False, ((BOUND, BOUND),))])
        self.assertEqual(many_in(cells_of(column, [])[0]), 2 * BOUND + 1)
        self.assertEqual(cell_of(column, [SHARE], BOUND), (False, False, ((-BOUND, -1), (4, BOUND))))
        self.assertEqual(cell_of(column, [SHARE], "ten"), (False, True, ((0, 0),)))

    def test_column_of_one_integer(self):
        self.assertEqual(cells_of(("n", 2, 2, False, False), [SHARE]), [(False, False, ((2, 2),))])

    def test_words_alone_in_a_cell(self):
        cell = cells_of(("n", 1, 1, False, True), [("number", "n")])[1]
        self.assertEqual([cell, value_for(cell), many_in(cell)], [(False, True, ()), "a", 0])

    def test_value_for(self):
        self.assertIs(value_for((True, True, ((1, 2),))), None)
        self.assertEqual(value_for((False, True, ((-4, -2), (1, 2)))), -4)
        self.assertEqual(value_for((False, True, ())), "a")

    def test_is_in_any_value(self):
        for thing in odd_things() + [LONG_NUMBER, -LONG_NUMBER]:
            self.assertIs(is_in((True, True, ((-9, 9),)), thing), False)
        cell = (False, False, ((-3, -1), (2, 2)))
        self.assertEqual([is_in(cell, n) for n in range(-4, 4)], [False, True, True, True, False, False, True, False])
        self.assertEqual([is_in(cell, None), is_in(cell, "a")], [False, False])
        self.assertEqual([is_in((True, False, ()), thing) for thing in (None, 0, "a")], [True, False, False])
        self.assertEqual([is_in((False, True, ()), thing) for thing in (None, 0, "a", "eightabc")],
                         [False, False, True, True])

    def test_met(self):
        source = random.Random(52)
        one_column, other_column = ("n", -9, 6, True, True), ("m", -4, 12, True, True)
        for _ in range(100):
            ones, others = make_tests(source, 2), make_tests(source, 2)
            for one in cells_of(one_column, ones):
                for other in cells_of(other_column, others):
                    both = [n for n in range(-12, 15) if is_in(one, n) and is_in(other, n)]
                    right = (one[0] and other[0], one[1] and other[1], stretches(both))
                    self.assertEqual([met(one, other), met(other, one)], [right, right])
        self.assertEqual(met((True, True, ()), (True, False, ((1, 2),))), (True, False, ()))


if __name__ == "__main__":
    unittest.main()
