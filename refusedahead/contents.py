"""What a planner makes of contents: surely safe, hanging on its plan, or never safe."""

from refusedahead.classes import class_rows
from refusedahead.errs import root_words
from refusedahead.plans import folds_err
from refusedahead.safe import safe_plan
from refusedahead.stuck import bar, rows_of


def has_safe_plan(planner, condition, rows, words):
    """Whether some plan errs at none of the rows, words being those of the condition there."""
    if folds_err(planner, condition) or None in [word[0] for word in words]:
        return False
    # Where at most one row hangs on the plan, the plan that serves it serves all.
    if len([word for word in words if word[1]]) < 2:
        return True
    return safe_plan(planner, condition, rows) is not None


def judged(planner, condition, rows):
    """Whether no plan errs at the rows, each does, or some do: sure, never or hangs."""
    words = root_words(planner, condition, rows)
    if not has_safe_plan(planner, condition, rows, words):
        return "never"
    return "hangs" if any([word[1] for word in words]) else "sure"


def kept_rows(planner, condition, rows):
    """The ascending list of the rows that the plans keep that do not err, or None if each errs."""
    words = root_words(planner, condition, rows)
    if not has_safe_plan(planner, condition, rows, words):
        return None
    return [index for index, word in enumerate(words) if word[0] == "yes"]


def strength(planner, condition, table):
    """How far a condition is safe at all contents of a table: sure, safe, each or never."""
    if folds_err(planner, condition):
        return "never"
    rows = class_rows(table, [condition])
    word = judged(planner, condition, rows)
    if word != "never":
        return "safe" if word == "hangs" else "sure"
    return "never" if None in [word[0] for word in root_words(planner, condition, rows)] else "each"


def _erring_row(planner, condition, rows):
    """A list of the first row at which each plan errs, or None if there is none."""
    for row, word in zip(rows, root_words(planner, condition, rows)):
        if word[0] is None:
            return [row]
    return None


def hard_rows(planner, condition, table):
    """Contents of a table, at most as many rows as there are leaves, at which each plan errs, or None."""
    if folds_err(planner, condition):
        return []
    rows = class_rows(table, [condition])
    if planner.mode != "free":
        return _erring_row(planner, condition, rows)
    found = bar(planner, condition, rows)
    return None if found is None else [rows[index] for index in rows_of(found)]
