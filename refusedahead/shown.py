"""Terms: what is shown of the rows that are kept, and where that errs."""

from refusedahead.cells import cells_of, value_for
from refusedahead.classes import class_rows, tests_by_column
from refusedahead.errors import Errs
from refusedahead.errs import plan_for, root_words
from refusedahead.plans import folds_err, is_plan_by, kept_by, text_plan
from refusedahead.spans import Spans
from refusedahead.steps import are_steps, erring, steps_on
from refusedahead.values import is_integer, is_name


def is_term(thing):
    """Whether thing is a term."""
    return isinstance(thing, tuple) and len(thing) == 2 and is_name(thing[0]) and are_steps(thing[1])


def term_value(term, row):
    """What a term shows of a row; raises Errs with the number at which a step errs, or with the word."""
    name, steps = term
    value = row[name]
    if len(steps) == 0 or value is None:
        return value
    if not is_integer(value):
        raise Errs(value)
    return steps_on(steps, value)


def shown_lists(planner, condition, terms, plan, contents):
    """The list of the lists of what terms show of each row that is kept, or None if there is an error."""
    kept = kept_by(planner, condition, plan, contents)
    if kept is None:
        return None
    indexes = list(range(len(contents))) if planner.early else kept
    try:
        shown = {index: [term_value(term, contents[index]) for term in terms] for index in indexes}
    except Errs:
        return None
    return [shown[index] for index in kept]


def _erring_values(cell, steps):
    """A list of a value of a cell at which a term with these steps errs, or of none."""
    _, words, spans = cell
    if len(steps) == 0:
        return []
    failing = Spans(spans) & erring(steps)
    if len(failing) > 0:
        return [failing.least()]
    return ["a"] if words else []


def _rows_erring(table, condition, terms, rows):
    """A list of a row that is alike one of the rows of classes and at which a term errs, or of none."""
    tests = tests_by_column(table, [condition])
    for name, steps in terms:
        column = table[name]
        values = {value_for(cell): _erring_values(cell, steps) for cell in cells_of(column, tests[column])}
        found = [{**row, name: value} for row in rows for value in values[row[name]]]
        if len(found) > 0:
            return found[:1]
    return []


def shown_paper(planner, table, condition, terms):
    """A tuple (contents, plan) of at most one row and a plan with which something errs there, or None."""
    if folds_err(planner, condition):
        return ([], text_plan(condition))
    rows = class_rows(table, [condition])
    words = root_words(planner, condition, rows)
    for row, word in zip(rows, words):
        if word[1]:
            return ([row], plan_for(planner, condition, row, "error"))
    if not planner.early:
        rows = [row for row, word in zip(rows, words) if word[0] == "yes"]
    found = _rows_erring(table, condition, terms, rows)
    # No plan errs at any row here, so each one keeps the row that is kept.
    return (found, text_plan(condition)) if len(found) > 0 else None


def shown_can_err(planner, table, condition, terms):
    """Whether for some plan that a Planner may choose and some contents of a Table something errs."""
    return shown_paper(planner, table, condition, terms) is not None


def is_shown_paper(planner, table, condition, terms, thing):
    """Whether thing is a tuple (contents, plan) of rows of a Table and a plan with which something errs there."""
    if not isinstance(thing, tuple) or len(thing) != 2 or not isinstance(thing[0], list):
        return False
    contents, plan = thing
    if not all([table.has_row(row) for row in contents]) or not is_plan_by(planner, condition, plan):
        return False
    return shown_lists(planner, condition, terms, plan, contents) is None
