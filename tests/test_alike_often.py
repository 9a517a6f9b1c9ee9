"""Points [41] and [42] asked often: cells, classes and what is alike, by going through all values."""

import random
import unittest

from refusedahead.cells import cell_of, cells_of
from refusedahead.classes import are_alike, class_row, class_rows
from refusedahead.tables import Table
from refusedahead.texts import tests_in
from tests.test_asks import SIGNS, right_answer
from tests.test_cells import right_cells
from tests.test_classes import all_rows, values_of

KINDS = ("plus", "times", "into", "over", "over", "found")


def make_step(source):
    kind = source.choice(KINDS)
    if kind == "found":
        keys = sorted(source.sample(range(-4, 5), source.randrange(5)))
        return (kind, tuple([(key, source.randrange(-5, 6)) for key in keys]))
    k = source.randrange(1, 5) if kind == "into" else source.choice((-4, -3, -2, -1, 1, 2, 3, 7))
    return (kind, k)


def make_leaf(source, names):
    name = source.choice(names)
    if source.random() < 0.2:
        return (source.choice(("empty", "number")), name)
    steps = tuple([make_step(source) for _ in range(source.randrange(4))])
    return ("asks", name, steps, source.choice(SIGNS), source.randrange(-2, 4))


def make_some(source, names, most):
    """An all, an any, a first or a case of up to so many leaves."""
    leaves = [make_leaf(source, names) for _ in range(source.randrange(1, most + 1))]
    below = [("not", one) if source.random() < 0.3 else one for one in leaves]
    if len(below) == 3 and source.random() < 0.5:
        return ("case", ((below[0], below[1]),), below[2])
    return (source.choice(("all", "any", "first")), tuple(below)) if len(below) > 1 else below[0]


def make_columns(source):
    found = []
    for name in source.choice((("n", "m"), ("m", "n"))):
        low = source.randrange(-5, 3)
        found.append((name, low, low + source.randrange(5), source.random() < 0.6, source.random() < 0.5))
    return found


def mark(tests, name, value):
    """What the tests of a column answer at a value."""
    return [right_answer(test, value) for test in tests if test[1] == name]


class AlikeOftenTest(unittest.TestCase):

    def own_tests(self, table, conditions):
        return [test for condition in conditions for test in tests_in(condition)] + table.indexes()

    def right_row(self, table, tests, row):
        """The first value of each cell, told by all values of its column."""
        found = {}
        for name in table.names():
            said = mark(tests, name, row[name])
            found[name] = [value for value in values_of(table[name]) if mark(tests, name, value) == said][0]
        return found

    def right_rows(self, table, tests):
        rows = []
        for row in all_rows(table):
            first = self.right_row(table, tests, row)
            if first not in rows:
                rows.append(first)
        return rows

    def check_cells(self, table, tests):
        for column in table.columns():
            mine = [test for test in tests if test[1] == column[0]]
            right = right_cells(column, mine)
            self.assertEqual(cells_of(column, mine), right, (column, mine))
            self.assertEqual(cells_of(column, mine * 2), right)
            for value in values_of(column):
                lying = [cell for cell in right if self.is_in(cell, value)]
                self.assertEqual([cell_of(column, mine, value)], lying, (column, mine, value))

    def is_in(self, cell, value):
        empty, words, spans = cell
        if value is None or isinstance(value, str):
            return words if value else empty
        return any(low <= value <= high for low, high in spans)

    def check(self, source, table, conditions):
        tests = self.own_tests(table, conditions)
        self.check_cells(table, tests)
        self.assertEqual(class_rows(table, conditions), self.right_rows(table, tests))
        rows = all_rows(table)
        for row in source.sample(rows, min(16, len(rows))):
            other = source.choice(rows)
            first = self.right_row(table, tests, row)
            self.assertEqual(class_row(table, conditions, row), first, (table.columns(), tests, row))
            self.assertEqual(list(class_row(table, conditions, row)), sorted(row))
            same = self.right_row(table, tests, other) == first
            self.assertIs(are_alike(table, conditions, row, other), same)
            self.assertIs(are_alike(table, conditions, other, row), same)
            self.assertIs(are_alike(table, conditions, row, row), True)

    def test_tables_of_two_columns(self):
        source = random.Random(181)
        for _ in range(160):
            names = ("n", "m")
            table = Table(make_columns(source))
            one, other = make_some(source, names, 5), make_some(source, names, 3)
            for conditions in ([one], [other, one], [one] * 3, []):
                self.check(source, table, conditions)
            self.check(source, table.with_index(make_leaf(source, names)), [one])
            self.check(source, table.with_column(("k", 0, 1, source.random() < 0.5, source.random() < 0.5)), [one])

    def test_what_was_told_may_be_changed(self):
        source = random.Random(182)
        for _ in range(60):
            names = ("n", "m")
            table, condition = Table(make_columns(source)), make_some(source, names, 5)
            row = all_rows(table)[-1]
            kept = dict(row)
            found = [class_row(table, [condition], row), class_rows(table, [condition])]
            copies = [dict(found[0]), [dict(one) for one in found[1]]]
            found[0].clear()
            found[1][0].clear()
            found[1].reverse()
            self.assertEqual([class_row(table, [condition], row), class_rows(table, [condition])], copies)
            self.assertEqual(row, kept)

    def test_the_one_told(self):
        table = Table([("n", -4, 0, True, True), ("m", -2, 2, True, False)])
        condition = ("all", (
            ("asks", "n", (("plus", 2), ("over", 3)), ">", 1),
            ("asks", "m", (("times", -3), ("into", 2), ("over", -4)), "<=", 0), ("asks", "n", (), "<>", 0),
            ("not", ("asks", "m", (("found", ((-2, 5), (0, 3), (1, 0))), ("over", 7)), "=", 2)), ("empty", "m")))
        other = ("any", (("asks", "n", (("plus", -1), ("over", 2)), "<", 1), ("number", "m")))
        source = random.Random(183)
        for conditions in ([condition], [condition, other], [other]):
            self.check(source, table, conditions)
        self.assertEqual(class_row(table, [condition], {"n": -1, "m": 2}), {"m": 1, "n": -1})

    def test_words_beside_integers_that_all_err(self):
        never = ("asks", "n", (("found", ()),), "=", 0)
        zero = ("asks", "n", (("over", 3),), ">", 0)
        for column in (("n", -1, 1, True, True), ("n", 0, 0, False, True), ("n", 1, 2, False, True)):
            table = Table([column])
            for conditions in ([never], [zero], [never, zero], [never, ("number", "n")], [zero, ("empty", "n")],
                               [("empty", "n")], [("number", "n")]):
                self.check(random.Random(184), table, conditions)
        self.assertEqual(class_row(Table([("n", -1, 1, True, True)]), [zero], {"n": "ten"}), {"n": 0})

    def test_wide_columns(self):
        bound = 10 ** 12
        column = ("n", -bound, bound, True, True)
        last = ("asks", "n", (("plus", -bound), ("over", 1)), "=", 0)
        self.assertEqual(cells_of(column, [last]), [
            (True, False, ()), (False, False, ((-bound, bound - 1),)), (False, True, ((bound, bound),))])
        self.assertEqual(class_row(Table([column]), [last], {"n": "ten"}), {"n": bound})
        self.assertEqual(class_row(Table([column]), [last], {"n": 5}), {"n": -bound})


if __name__ == "__main__":
    unittest.main()
