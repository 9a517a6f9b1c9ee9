"""Classes: the rows of a table at which conditions answer the same."""

from refusedahead.asking import answer
from refusedahead.asks import column_of, test_answer
from refusedahead.cells import cell_of, cells_of, value_for
from refusedahead.texts import tests_in


def _indexes_on(table, name):
    """The list of the indexes of a table that ask a column."""
    return [test for test in table.indexes() if column_of(test) == name]


def _tests_on(table, conditions, name):
    """The list of the tests of conditions and indexes that ask a column."""
    every = [test for condition in conditions for test in tests_in(condition)]
    return [test for test in every if column_of(test) == name] + _indexes_on(table, name)


def _first_values(table, conditions, column):
    """The list of the first values of the cells of a column at which no index errs, in order."""
    name = column[0]
    values = [value_for(cell) for cell in cells_of(column, _tests_on(table, conditions, name))]
    indexes = _indexes_on(table, name)
    return [value for value in values if "error" not in [test_answer(test, value) for test in indexes]]


def _in_order(row):
    """A row with its names ascending."""
    return {name: row[name] for name in sorted(row)}


def class_rows(table, conditions):
    """The list of the rows of all classes, the cells of the last column changing fastest."""
    rows = [{}]
    for column in table.columns():
        values = _first_values(table, conditions, column)
        rows = [{**row, column[0]: value} for row in rows for value in values]
    return [_in_order(row) for row in rows]


def class_row(table, conditions, row):
    """The row of the class of a row."""
    found = {}
    for column in table.columns():
        name = column[0]
        found[name] = value_for(cell_of(column, _tests_on(table, conditions, name), row[name]))
    return _in_order(found)


def are_alike(table, conditions, one, other):
    """Whether two rows are alike by some conditions."""
    return class_row(table, conditions, one) == class_row(table, conditions, other)


def rows_with(table, condition, said):
    """The list of the rows of classes at which a condition has the answer said."""
    return [row for row in class_rows(table, [condition]) if answer(condition, row) == said]


def answers_in(table, condition):
    """The ascending list of the answers that a condition has at some row."""
    return sorted({answer(condition, row) for row in class_rows(table, [condition])})


def row_apart(table, one, other):
    """A row at which two conditions have unlike answers, or None if there is none."""
    for row in class_rows(table, [one, other]):
        if answer(one, row) != answer(other, row):
            return row
    return None
