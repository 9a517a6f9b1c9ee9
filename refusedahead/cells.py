"""Cells: the values of a column at which tests answer the same."""

from refusedahead.asks import spans_saying, test_answer
from refusedahead.spans import Spans
from refusedahead.values import is_integer, is_name


def _turns(column, index, test):
    """The list of the tuples (start, index, rank, said) of where the answer of a test with steps changes.

    They tell of the integers of a column alone; what is told by none of them is a no. Where two
    of a test start at one integer, that of the greater rank holds.
    """
    _, low, high, _, _ = column
    found = []
    for said in ("error", "yes"):
        for first, last in spans_saying(test, said):
            if (first is None or first <= high) and (last is None or last >= low):
                found.append((low if first is None or first < low else first, index, 1, said))
                if last is not None and last < high:
                    found.append((last + 1, index, 0, "no"))
    return found


def _lots_by_answers(column, asks):
    """The dict from the answers of tests with steps to the list of the stretches of a column that have them.

    The answers are in the order of their first integers.
    """
    _, low, high, _, _ = column
    turns = [turn for index, test in enumerate(asks) for turn in _turns(column, index, test)]
    found, answers, start = {}, ["no"] * len(asks), low
    for first, index, _, said in sorted(turns):
        if first > start:
            found.setdefault(tuple(answers), []).append((start, first - 1))
            start = first
        answers[index] = said
    found.setdefault(tuple(answers), []).append((start, high))
    return found


def cells_of(column, tests):
    """The list of all cells of a column by tests, in order."""
    _, low, high, empty, words = column
    if len(tests) == 0:
        return [(empty, words, ((low, high),))]
    # Some test tells None from all else; words are with the integers at which all tests err.
    numbers = "number" in [test[0] for test in tests]
    cells, apart = [(True, False, ())] if empty else [], words
    for answers, stretches in _lots_by_answers(column, [test for test in tests if test[0] == "asks"]).items():
        beside = apart and not numbers and "no" not in answers and "yes" not in answers
        cells.append((False, beside, tuple(stretches)))
        apart = apart and not beside
    return cells + ([(False, True, ())] if apart else [])


def cell_of(column, tests, value):
    """The cell of a column by tests in which a value lies."""
    return [cell for cell in cells_of(column, tests) if is_in(cell, value)][0]


def first_alike(column, tests, value):
    """The first value of the cell of a column by tests in which a value lies."""
    _, low, high, empty, _ = column
    if len(tests) == 0:
        return None if empty else low
    if value is None:
        return None
    answers = [test_answer(test, value) for test in tests]
    if answers == [test_answer(test, low) for test in tests]:
        return low
    if not is_integer(value) and "number" in [test[0] for test in tests]:
        return "a"
    alike = Spans([(low, high)])
    for test, said in zip(tests, answers):
        if test[0] == "asks":
            alike = alike & spans_saying(test, said)
    stretches = alike.pairs()
    return stretches[0][0] if len(stretches) > 0 else "a"


def is_in(cell, thing):
    """Whether thing lies in a cell."""
    empty, words, spans = cell
    if thing is None:
        return empty
    if is_integer(thing):
        return any([low <= thing <= high for low, high in spans])
    return words and is_name(thing)


def value_for(cell):
    """The first value of a cell: None, its least integer, or a word."""
    empty, _, spans = cell
    if empty:
        return None
    return spans[0][0] if len(spans) > 0 else "a"


def many_in(cell):
    """How many integers lie in a cell."""
    return Spans(cell[2]).many()


def met(one, other):
    """The tuple (empty, words, spans) of what lies in both of two cells."""
    spans = Spans(one[2]) & Spans(other[2])
    return (one[0] and other[0], one[1] and other[1], tuple(spans.pairs()))
