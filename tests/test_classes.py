"""Point [42]: classes of rows."""

import itertools
import random
import unittest

from refusedahead.asking import answer
from refusedahead.cells import cells_of, value_for
from refusedahead.classes import answers_in, are_alike, class_row, class_rows, row_apart, rows_with
from refusedahead.tables import Table
from refusedahead.texts import tests_in
from tests.makers import make_condition, make_test
from tests.test_asks import right_answer

BOUND = 10 ** 12
ANSWERS = ("error", "no", "unknown", "yes")
SHARE, COLUMN = ("asks", "n", (("over", 12),), ">", 3), ("n", -5, 20, True, False)


def values_of(column):
    """All values of a small column; of the words two."""
    _, low, high, empty, words = column
    return ([None] if empty else []) + list(range(low, high + 1)) + (["a", "ten"] if words else [])


def all_rows(table):
    """All rows of a small table, the last column changing fastest."""
    lists = [values_of(column) for column in table.columns()]
    names = [column[0] for column in table.columns()]
    rows = [dict(zip(names, values)) for values in itertools.product(*lists)]
    return [row for row in rows if table.has_row(row)]


def mark(table, conditions, row):
    """What is the same for alike rows alone."""
    tests = table.indexes() + [test for condition in conditions for test in tests_in(condition)]
    return tuple([(test, right_answer(test, row[test[1]])) for test in tests])


def make_table(source):
    """A small table, perhaps with indexes."""
    columns = []
    for name in source.choice(([], ["n"], ["n", "m"], ["m", "n"], ["n", "k", "m"])):
        low = source.randrange(-5, 3)
        columns.append((name, low, low + source.randrange(5), source.random() < 0.5, source.random() < 0.4))
    names = [column[0] for column in columns]
    return Table(columns, [make_test(source, names) for _ in range(source.choice((0, 0, 1, 2))) if names])


def fitting(source, table):
    """A condition that fits a table."""
    while True:
        condition = make_condition(source, table.names() or ["n"], 2)
        if table.fits(condition) and len(tests_in(condition)) <= 4:
            return condition


class ClassesTest(unittest.TestCase):

    def test_by_going_through_all_rows(self):
        source = random.Random(61)
        for _ in range(250):
            table = make_table(source)
            conditions = [fitting(source, table) for _ in range(source.randrange(3))]
            rows = all_rows(table)
            lots = {}
            for row in rows:
                lots.setdefault(mark(table, conditions, row), []).append(row)
            right = {key: self.row_of(lot) for key, lot in lots.items()}
            for _ in range(2):
                found = class_rows(table, conditions)
                self.check_rows(table, found, list(right.values()))
                for row in found:
                    row.clear()
                found.clear()
            for row in rows:
                self.check_row(table, conditions, row, right[mark(table, conditions, row)])
            for one, other in itertools.islice(itertools.product(rows, rows), 0, 400, 7):
                same = mark(table, conditions, one) == mark(table, conditions, other)
                self.assertIs(are_alike(table, conditions, one, other), same)

    def row_of(self, lot):
        """The row of a class: for each column the first value that comes in it."""
        first = lot[0]
        # Names ascend as the document says of each dict that is returned.
        return {name: first[name] for name in sorted(first)}

    def check_rows(self, table, found, right):
        self.assertEqual(found, right)
        for row in found:
            self.assertEqual(list(row), table.names())
            self.assertIs(table.has_row(row), True)

    def check_row(self, table, conditions, row, right):
        kept = dict(row)
        for _ in range(2):
            found = class_row(table, conditions, row)
            self.assertEqual([found, list(found)], [right, table.names()])
            found.clear()
        self.assertEqual(row, kept)

    def test_the_order(self):
        columns = [("z", 0, 1, True, False), ("a", 0, 1, False, True)]
        zero = ("all", (("asks", "z", (), "=", 0), ("asks", "a", (), "=", 0)))
        found = class_rows(Table(columns), [zero])
        self.assertEqual([(row["z"], row["a"]) for row in found], [
            (None, 0), (None, 1), (None, "a"), (0, 0), (0, 1), (0, "a"), (1, 0), (1, 1), (1, "a")])
        self.assertEqual([list(row) for row in found], [["a", "z"]] * 9)

    def test_without_columns(self):
        table = Table([])
        self.assertEqual([class_rows(table, []), class_rows(table, [("always", "no")])], [[{}], [{}]])
        self.assertEqual(class_row(table, [("always", "no")], {}), {})
        self.assertIs(are_alike(table, [], {}, {}), True)
        self.assertEqual([answers_in(table, ("always", word)) for word in ANSWERS], [[word] for word in ANSWERS])
        self.assertEqual(row_apart(table, ("always", "yes"), ("always", "no")), {})
        self.assertIs(row_apart(table, ("all", ()), ("always", "yes")), None)

    def test_no_condition(self):
        table = Table([COLUMN, ("m", 1, 2, False, True)])
        self.assertEqual(class_rows(table, []), [{"m": 1, "n": None}])
        self.assertIs(are_alike(table, [], {"n": 4, "m": 1}, {"n": None, "m": "ten"}), True)

    def test_no_row_at_all(self):
        table = Table([("n", 0, 0, False, False), ("m", 1, 2, True, False)], [SHARE])
        self.assertEqual([class_rows(table, []), class_rows(table, [SHARE])], [[], []])
        self.assertEqual([answers_in(table, SHARE), rows_with(table, SHARE, "error")], [[], []])
        self.assertIs(row_apart(table, ("always", "yes"), ("always", "no")), None)

    def test_indexes_take_rows_away(self):
        table = Table([("n", -2, 2, True, True)], [SHARE])
        found = class_rows(table, [])
        self.assertEqual(found, [{"n": None}, {"n": -2}, {"n": 1}])
        self.assertEqual(answers_in(table, ("number", "n")), ["unknown", "yes"])

    def test_more_than_one_condition(self):
        table = Table([("n", 0, 9, False, False)])
        low, high = ("asks", "n", (), "<", 3), ("asks", "n", (), ">", 6)
        self.assertEqual(class_rows(table, [low, high]), [{"n": 0}, {"n": 3}, {"n": 7}])
        self.assertEqual([are_alike(table, [low], {"n": 4}, {"n": 9}), are_alike(table, [low, high], {"n": 4}, {"n": 9})],
                         [True, False])

    def test_wide_columns(self):
        table = Table([("n", -BOUND, BOUND, False, False), ("m", -BOUND, BOUND, True, False)])
        one = ("asks", "n", (("times", 7), ("plus", 3)), "=", 7 * 10 ** 11 + 3)
        self.assertEqual(rows_with(table, one, "yes"), [{"m": None, "n": 10 ** 11}])
        self.assertEqual(row_apart(table, one, ("always", "no")), {"m": None, "n": 10 ** 11})
        never = ("asks", "n", (("times", 7), ("plus", 3)), "=", 7 * 10 ** 11 + 4)
        self.assertIs(row_apart(table, never, ("always", "no")), None)
        last = ("asks", "m", (("plus", -BOUND), ("over", 1)), "=", 0)
        self.assertEqual(rows_with(table, last, "error"), [{"m": BOUND, "n": -BOUND}])
        self.assertEqual(answers_in(table, last), ["error", "no", "unknown"])
        self.assertEqual(class_row(table, [last], {"n": 5, "m": -7}), {"m": -BOUND, "n": -BOUND})

    def test_answers(self):
        source = random.Random(62)
        for _ in range(250):
            table = make_table(source)
            one, other = fitting(source, table), fitting(source, table)
            rows = all_rows(table)
            for _ in range(2):
                found = answers_in(table, one)
                self.assertEqual(found, sorted({answer(one, row) for row in rows}))
                found.clear()
            for said in ANSWERS:
                right = [row for row in class_rows(table, [one]) if answer(one, row) == said]
                self.assertEqual(rows_with(table, one, said), right)
                self.assertEqual(len(right) > 0, said in [answer(one, row) for row in rows])
            self.check_apart(table, one, other, rows)

    def check_apart(self, table, one, other, rows):
        found = row_apart(table, one, other)
        apart = [row for row in rows if answer(one, row) != answer(other, row)]
        if found is None:
            self.assertEqual(apart, [])
        else:
            self.assertIs(table.has_row(found), True)
            self.assertEqual(list(found), table.names())
            self.assertNotEqual(answer(one, found), answer(other, found))

    def test_each_row_is_new(self):
        table = Table([COLUMN])
        found = class_rows(table, [SHARE]) + rows_with(table, SHARE, "no") + [row_apart(table, SHARE, ("all", ()))]
        self.assertEqual(len({id(row) for row in found}), len(found))

    def test_one_column(self):
        rows = class_rows(Table([COLUMN]), [SHARE])
        self.assertEqual(rows, [{"n": value_for(cell)} for cell in cells_of(COLUMN, [SHARE])])


if __name__ == "__main__":
    unittest.main()
