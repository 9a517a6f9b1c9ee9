"""What reports of outcomes tell of planners and of plans."""

from refusedahead.classes import class_rows
from refusedahead.compared import Side, is_told_at, outcomes, parted
from refusedahead.contents import judged
from refusedahead.planners import Planner
from refusedahead.plans import erring_alwayses, kept_by, plans_by
from refusedahead.texts import is_condition

# What tells the planners apart that do not fold, ascending.
PLANNERS = (("every", False), ("every", True), ("free", False), ("free", True), ("text", False), ("text", True))


def _planners_judging(condition, table, words):
    """The ascending list of the planners by which all rows of classes together are judged one of some words."""
    rows = class_rows(table, [condition])
    truths = [False] if len(erring_alwayses(condition)) > 0 else [False, True]
    found = []
    for mode, unknown in PLANNERS:
        if judged(Planner(mode, unknown=unknown), condition, rows) in words:
            found.extend([(mode, unknown, folds) for folds in truths])
    return found


def surest(condition, table):
    """The ascending list of the planners under which a condition is sure at all contents of a table."""
    return _planners_judging(condition, table, ("sure",))


def steady(condition, table):
    """The ascending list of the planners under which some plan errs at no contents of a table."""
    return _planners_judging(condition, table, ("hangs", "sure"))


def fits(planner, report):
    """Whether a report fits a planner."""
    condition, rows, outcome = report
    return outcome in outcomes(planner, condition, rows)


def _fitted(report):
    """The ascending list of the planners that a report fits."""
    condition, _, outcome = report
    folded = len(erring_alwayses(condition)) > 0
    found = []
    for mode, unknown in PLANNERS:
        fitting = fits(Planner(mode, unknown=unknown), report)
        if fitting:
            found.append((mode, unknown, False))
        if (outcome == "errs") if folded else fitting:
            found.append((mode, unknown, True))
    return found


def planners_for(reports):
    """The ascending list of the planners that all reports of a list fit."""
    found = [(mode, unknown, folds) for mode, unknown in PLANNERS for folds in (False, True)]
    for report in reports:
        fitted = _fitted(report)
        found = [told for told in found if told in fitted]
    return found


def _comes_to(planner, condition, plan, rows, outcome):
    """Whether a plan comes to an outcome at rows."""
    kept = kept_by(planner, condition, plan, rows)
    return outcome == ("errs" if kept is None else kept)


def plan_of(planner, condition, told):
    """A plan that comes to all outcomes that are told, or None if there is none."""
    for plan in plans_by(planner, condition):
        if all([_comes_to(planner, condition, plan, rows, outcome) for rows, outcome in told]):
            return plan
    return None


def telling(one, other, condition, table):
    """A report with contents of a table that fits just one of two planners, or None if there is none."""
    lot = class_rows(table, [condition])
    found = parted(Side(one, condition, lot), Side(other, condition, lot), lot)
    if found is None:
        return None
    rows, outcome = found
    return (condition, rows, outcome)


def is_telling(one, other, condition, table, thing):
    """Whether thing is a report of the condition with contents of a table that fits just one of two planners."""
    if not isinstance(thing, tuple) or len(thing) != 3 or not is_told_at(table, thing[1:]):
        return False
    # Truths are equal to 0 and 1, so what is no condition could be equal to one.
    if not is_condition(thing[0]) or thing[0] != condition:
        return False
    return fits(one, thing) != fits(other, thing)
