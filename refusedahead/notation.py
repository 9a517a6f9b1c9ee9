"""The texts of tests, conditions, rows, planners and tables."""

from refusedahead.planners import TRUTHS
from refusedahead.texts import TESTS, parts


def _show_value(value):
    """The text of a value."""
    return "-" if value is None else str(value)


def _show_step(step):
    """The text of a step."""
    kind, worth = step
    if kind != "found":
        return f"{kind} {worth}"
    entries = ",".join([f"{key}:{number}" for key, number in worth])
    return f"{kind} {entries}" if len(worth) > 0 else f"{kind} -"


def show_test(test):
    """The text of a test."""
    if test[0] != "asks":
        return f"{test[1]} {test[0]}"
    _, name, steps, sign, number = test
    return " ".join([name] + [_show_step(step) for step in steps] + [sign, str(number)])


def show_condition(condition):
    """The text of a condition."""
    kind = condition[0]
    if kind in TESTS:
        return show_test(condition)
    if kind == "always":
        return f"{kind} {condition[1]}"
    below = [show_condition(part) for part in parts(condition)]
    if kind == "case":
        below = [f"{when} ? {then}" for when, then in zip(below[:-1:2], below[1::2])] + below[-1:]
    inner = ", ".join(below)
    return f"{kind}({inner})"


def show_row(row):
    """The text of a row."""
    if len(row) == 0:
        return "-"
    shown = [f"{name}={_show_value(row[name])}" for name in sorted(row)]
    return ", ".join(shown)


def show_planner(planner):
    """The text of a Planner."""
    truths = (planner.unknown, planner.folds, planner.beneath, planner.early)
    return " ".join([planner.mode] + [word for word, truth in zip(TRUTHS, truths) if truth])


def show_column(column):
    """The text of a column, without its line feed."""
    name, low, high, empty, words = column
    behind = (["empty"] if empty else []) + (["words"] if words else [])
    return " ".join(["column", name, str(low), str(high)] + behind)


def show_table(table):
    """The text of a Table, a line for each column and each index."""
    columns = [show_column(column) for column in table.columns()]
    lines = columns + [f"index {show_test(test)}" for test in table.indexes()]
    return "".join([line + "\n" for line in lines])
