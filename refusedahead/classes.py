"""Classes: the rows of a table at which conditions answer the same."""

from refusedahead.asking import answer
from refusedahead.asks import column_of, test_answer
from refusedahead.cells import cells_of, first_alike, value_for
from refusedahead.texts import all_tests


def tests_by_column(table, conditions):
    """The dict from the columns of a table to the lists of the different tests that ask them, indexes too.

    Conditions on a join ask columns of another table as well; those tests are passed over.
    """
    found = {column: {} for column in table.columns()}
    lots = {column[0]: lot for column, lot in found.items()}
    for tests in [all_tests(condition) for condition in conditions] + [table.indexes()]:
        for test in tests:
            if column_of(test) in lots:
                lots[column_of(test)][test] = True
    return {column: list(lot) for column, lot in found.items()}


def _first_values(column, tests, indexes):
    """The list of the first values of the cells of a column at which no index errs, in order."""
    values = [value_for(cell) for cell in cells_of(column, tests)]
    mine = [test for test in indexes if column_of(test) == column[0]]
    return [value for value in values if "error" not in [test_answer(test, value) for test in mine]]


def class_rows(table, conditions):
    """The list of the rows of all classes, the cells of the last column changing fastest."""
    # The names stand in their order from the first row on.
    rows, indexes = [{name: None for name in table.names()}], table.indexes()
    for column, tests in tests_by_column(table, conditions).items():
        values = _first_values(column, tests, indexes)
        rows = [{**row, column[0]: value} for row in rows for value in values]
    return rows


def class_row(table, conditions, row):
    """The row of the class of a row."""
    found = {name: None for name in table.names()}
    for column, tests in tests_by_column(table, conditions).items():
        found[column[0]] = first_alike(column, tests, row[column[0]])
    return found


def are_alike(table, conditions, one, other):
    """Whether two rows are alike by some conditions."""
    tests = [test for condition in conditions for test in all_tests(condition)] + table.indexes()
    for test in tests:
        mine, theirs = one[column_of(test)], other[column_of(test)]
        if mine != theirs and test_answer(test, mine) != test_answer(test, theirs):
            return False
    return True


def rows_with(table, condition, said):
    """The list of the rows of classes at which a condition has the answer said."""
    return [row for row in class_rows(table, [condition]) if answer(condition, row) == said]


def answers_in(table, condition):
    """The ascending list of the answers that a condition has at some row."""
    return sorted({answer(condition, row) for row in class_rows(table, [condition])})


def row_apart(table, one, other):
    """A row at which two conditions have unlike answers, or None if there is none."""
    for row in class_rows(table, [one, other]):
        if answer(one, row) != answer(other, row):
            return row
    return None
