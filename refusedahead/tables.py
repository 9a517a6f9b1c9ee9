"""Tables: columns, and indexes that refuse the rows at which they err."""

from refusedahead.asks import column_of, is_test, test_answer
from refusedahead.errors import NoColumn, Twice, Wrong
from refusedahead.texts import columns_in
from refusedahead.values import is_column, is_name, is_row, value_fits


def _are_columns(thing):
    """Whether thing is a list or a tuple of columns."""
    return isinstance(thing, (list, tuple)) and all([is_column(column) for column in thing])


def _are_tests(thing):
    """Whether thing is a list or a tuple of tests."""
    return isinstance(thing, (list, tuple)) and all([is_test(test) for test in thing])


def _check_names(columns):
    """Raises Twice for the first column whose name an earlier one has."""
    names = [column[0] for column in columns]
    for index, name in enumerate(names):
        if name in names[:index]:
            raise Twice(name)


def _check_indexes(columns, indexes):
    """Raises NoColumn for the first index whose column there is not."""
    names = [column[0] for column in columns]
    for test in indexes:
        if column_of(test) not in names:
            raise NoColumn(column_of(test))


class Table:
    """Columns and indexes, in order; it never changes."""

    def __init__(self, columns, indexes=()):
        if not _are_columns(columns):
            raise Wrong(0)
        if not _are_tests(indexes):
            raise Wrong(1)
        _check_names(columns)
        _check_indexes(columns, indexes)
        self._columns = tuple(columns)
        self._indexes = tuple(indexes)

    def columns(self):
        """The list of the columns, in order."""
        return list(self._columns)

    def indexes(self):
        """The list of the indexes, in order."""
        return list(self._indexes)

    def names(self):
        """The ascending list of the names of the columns."""
        return sorted([column[0] for column in self._columns])

    def holds(self, name, value):
        """Whether there is this column and it lets the value."""
        return name in self and value_fits(self[name], value)

    def has_row(self, thing):
        """Whether thing is a row of the table."""
        if not is_row(thing) or sorted(thing) != self.names():
            return False
        if not all([self.holds(name, worth) for name, worth in thing.items()]):
            return False
        return "error" not in [test_answer(test, thing[column_of(test)]) for test in self._indexes]

    def fits(self, condition):
        """Whether all columns that a condition asks are columns of the table."""
        return all([name in self for name in columns_in(condition)])

    def with_column(self, column):
        """The table with one more column behind the others."""
        if not is_column(column):
            raise Wrong(0)
        return Table(self._columns + (column,), self._indexes)

    def with_index(self, test):
        """The table with one more index behind the others."""
        if not is_test(test):
            raise Wrong(0)
        return Table(self._columns, self._indexes + (test,))

    def without(self, name):
        """The table without a column and the indexes on it; raises NoColumn if it has none."""
        if name not in self:
            raise NoColumn(name)
        columns = [column for column in self._columns if column[0] != name]
        indexes = [test for test in self._indexes if column_of(test) != name]
        return Table(columns, indexes)

    def __len__(self):
        return len(self._columns)

    def __contains__(self, x):
        return is_name(x) and x in [column[0] for column in self._columns]

    def __getitem__(self, at):
        if is_name(at):
            for column in self._columns:
                if column[0] == at:
                    return column
        raise NoColumn(at)

    def __iter__(self):
        raise TypeError("a Table is not iterated over")

    def __eq__(self, other):
        return isinstance(other, Table) and self._columns == other._columns and self._indexes == other._indexes
