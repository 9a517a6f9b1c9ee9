"""Cells: the values of a column at which tests answer the same."""

from refusedahead.asks import test_answer, told
from refusedahead.spans import Spans
from refusedahead.values import is_integer, is_name


def _starts(column, tests):
    """The ascending list of the integers of a column at which other answers may begin."""
    _, low, high, _, _ = column
    found = [low]
    for test in tests:
        # All integers lie in these Spans, so behind the end of each stretch another one starts.
        for spans in told(test).values():
            found.extend([first for first, _ in spans if first is not None])
    return sorted({first for first in found if low <= first <= high})


def _pieces(column, tests):
    """The list of lots of values within a cell, in order, that together are all of a column."""
    _, _, high, empty, words = column
    starts = _starts(column, tests)
    ends = starts[1:] + [high + 1]
    integers = [(False, False, ((start, end - 1),)) for start, end in zip(starts, ends)]
    ahead = [(True, False, ())] if empty else []
    behind = [(False, True, ())] if words else []
    return ahead + integers + behind


def _joined(pieces):
    """The cell of all values of some pieces."""
    spans = Spans([pair for piece in pieces for pair in piece[2]])
    return (any([piece[0] for piece in pieces]), any([piece[1] for piece in pieces]), tuple(spans.pairs()))


def cells_of(column, tests):
    """The list of all cells of a column by tests, in order."""
    lots = {}
    for piece in _pieces(column, tests):
        said = tuple([test_answer(test, value_for(piece)) for test in tests])
        lots.setdefault(said, []).append(piece)
    return [_joined(pieces) for pieces in lots.values()]


def cell_of(column, tests, value):
    """The cell of a column by tests in which a value lies."""
    return [cell for cell in cells_of(column, tests) if is_in(cell, value)][0]


def is_in(cell, thing):
    """Whether thing lies in a cell."""
    empty, words, spans = cell
    if thing is None:
        return empty
    if is_integer(thing):
        return thing in Spans(spans)
    return words and is_name(thing)


def value_for(cell):
    """The first value of a cell."""
    empty, _, spans = cell
    if empty:
        return None
    return spans[0][0] if len(spans) > 0 else "a"


def many_in(cell):
    """How many integers lie in a cell."""
    return Spans(cell[2]).many()


def met(one, other):
    """The tuple (empty, words, spans) of what lies in both of two cells."""
    spans = Spans(one[2]) & Spans(other[2])
    return (one[0] and other[0], one[1] and other[1], tuple(spans.pairs()))
