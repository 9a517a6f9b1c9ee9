"""A store of rows of a table, with indexes that come and go; what is done can be undone and done anew."""

from refusedahead.asks import column_of, test_answer
from refusedahead.contents import judged, kept_rows, strength
from refusedahead.errors import AskError, BadDeed, NoRow, Nothing, Refused, Stopped, Wrong
from refusedahead.tables import Table
from refusedahead.values import is_integer, is_row


def _errs_at(test, row):
    """Whether a test errs at a row."""
    return test_answer(test, row[column_of(test)]) == "error"


def _has_values(table, thing):
    """Whether thing is a dict with just the columns of a table, each with a value of it."""
    if not is_row(thing) or sorted(thing) != table.names():
        return False
    return all([table.holds(name, worth) for name, worth in thing.items()])


def _with_row(table, rows, row):
    """The table and the rows with one more row behind; raises Refused if an index errs at it."""
    if not _has_values(table, row):
        raise Wrong(0)
    for index, test in enumerate(table.indexes()):
        if _errs_at(test, row):
            raise Refused(index)
    return (table, rows + [{name: row[name] for name in sorted(row)}])


def _check_index(index, many):
    """Raises NoRow for what is not the number of one of many."""
    if not is_integer(index) or not 0 <= index < many:
        raise NoRow(index)


def _without_row(table, rows, index):
    """The table and the rows without the one with this index."""
    _check_index(index, len(rows))
    return (table, rows[:index] + rows[index + 1:])


def _with_index(table, rows, test):
    """The table with one more index and the rows; raises NoRow with the first row at which it errs."""
    longer = table.with_index(test)
    for index, row in enumerate(rows):
        if _errs_at(test, row):
            raise NoRow(index)
    return (longer, rows)


def _without_index(table, rows, index):
    """The table without the index with this number and the rows."""
    indexes = table.indexes()
    _check_index(index, len(indexes))
    return (Table(table.columns(), indexes[:index] + indexes[index + 1:]), rows)


DEEDS = {"put": _with_row, "out": _without_row, "add": _with_index, "drop": _without_index}


def _done(table, rows, word, thing):
    """The table and the rows behind a deed; raises what the deed raises."""
    deed = DEEDS[word]
    return deed(table, rows, thing)


def _is_deed(thing):
    """Whether thing is a tuple of the word of a deed and what it takes."""
    return isinstance(thing, tuple) and len(thing) == 2 and isinstance(thing[0], str) and thing[0] in DEEDS


class Store:
    """A Table and rows of it."""

    def __init__(self, table):
        if not isinstance(table, Table):
            raise Wrong(0)
        self._table = table
        # Rows and lists of them are never changed, so that what was ahead of a deed can be kept as it is.
        self._rows = []
        self._ahead = []
        self._undone = []

    @property
    def table(self):
        """The Table as it is now."""
        return self._table

    def rows(self):
        """The list of the rows, copies, in the order in which they came."""
        return [dict(row) for row in self._rows]

    def __len__(self):
        return len(self._rows)

    def _go_on(self, table, rows):
        """Takes what comes of a deed, which can be undone from now on."""
        self._ahead.append((self._table, self._rows))
        self._undone = []
        self._table = table
        self._rows = rows

    def put(self, row):
        """Puts a row behind the others; raises Refused with the least index that errs at it."""
        table, rows = _done(self._table, self._rows, "put", row)
        self._go_on(table, rows)

    def out(self, index):
        """Takes the row with this index out; raises NoRow for what is none."""
        table, rows = _done(self._table, self._rows, "out", index)
        self._go_on(table, rows)

    def add(self, test):
        """Adds an index behind the others; raises NoRow with the first row at which it errs."""
        table, rows = _done(self._table, self._rows, "add", test)
        self._go_on(table, rows)

    def drop(self, index):
        """Takes the index with this number out of the Table; raises NoRow for what is none."""
        table, rows = _done(self._table, self._rows, "drop", index)
        self._go_on(table, rows)

    def do_all(self, deeds):
        """Does deeds as one; raises BadDeed for what are none, Stopped if one of them raises an error."""
        if not isinstance(deeds, (list, tuple)) or not all([_is_deed(deed) for deed in deeds]):
            raise BadDeed()
        table, rows = self._table, self._rows
        for index, (word, thing) in enumerate(deeds):
            try:
                table, rows = _done(table, rows, word, thing)
            except AskError:
                raise Stopped(index)
        self._go_on(table, rows)

    def back(self):
        """Undoes the last deed that stands; raises Nothing if there is none."""
        if len(self._ahead) == 0:
            raise Nothing()
        self._undone.append((self._table, self._rows))
        self._table, self._rows = self._ahead.pop()

    def again(self):
        """Does the deed anew that was undone last; raises Nothing if there is none."""
        if len(self._undone) == 0:
            raise Nothing()
        self._ahead.append((self._table, self._rows))
        self._table, self._rows = self._undone.pop()

    def ask(self, planner, condition):
        """A tuple of what the rows are judged, and of the tuple of those that are kept, or None."""
        kept = kept_rows(planner, condition, self._rows)
        return (judged(planner, condition, self._rows), None if kept is None else tuple(kept))

    def foresee(self, planner, condition):
        """How far a condition is safe at all contents of the Table."""
        return strength(planner, condition, self._table)

    def copied(self):
        """A Store in the same state, with what can be undone and done anew."""
        found = Store(self._table)
        found._rows = self._rows
        found._ahead = list(self._ahead)
        found._undone = list(self._undone)
        return found
