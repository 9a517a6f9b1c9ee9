"""What conditions come to at contents, and whether two of them come to the same."""

from refusedahead.classes import class_rows
from refusedahead.contents import has_safe_plan
from refusedahead.errs import root_words
from refusedahead.plans import folds_err
from refusedahead.safe import Places
from refusedahead.sets import safe_sets
from refusedahead.stuck import bar_at, rows_of
from refusedahead.values import is_integer

ERRS = "errs"


def _is_outcome(thing):
    """Whether thing has the form of an outcome."""
    if isinstance(thing, list):
        return all([is_integer(index) for index in thing])
    return isinstance(thing, str) and thing == ERRS


def outcomes(planner, condition, rows):
    """The list of the different outcomes of a condition at rows: the kept rows first, then errs."""
    words = root_words(planner, condition, rows)
    found = []
    if has_safe_plan(planner, condition, rows, words):
        found.append([index for index, word in enumerate(words) if word[0] == "yes"])
    if folds_err(planner, condition) or any([word[1] for word in words]):
        found.append(ERRS)
    return found


class Side:
    """One of two sides that are compared: a condition under a planner, at the rows of classes."""

    def __init__(self, planner, condition, lot):
        self.planner = planner
        self.condition = condition
        self.folded = folds_err(planner, condition)
        self.words = root_words(planner, condition, lot)


def _outcomes_of(word):
    """The outcomes at one row at which a condition has a word."""
    value, errs = word
    kept = [] if value is None else [[0] if value == "yes" else []]
    return kept + ([ERRS] if errs else [])


def strayed(one, other, lot):
    """A tuple (rows, outcome) of an outcome that the other of two sides has and the one has not, or None.

    The lot is that of the rows of classes by what is compared.
    """
    if one.folded or other.folded:
        return None if one.folded and other.folded else ([], ERRS if other.folded else [])
    for row, mine, theirs in zip(lot, one.words, other.words):
        for outcome in _outcomes_of(theirs):
            if outcome not in _outcomes_of(mine):
                return ([row], outcome)
    return _strayed_together(one, other, lot)


def _strayed_together(one, other, lot):
    """What strayed returns, of sides that do not stray at single rows."""
    # Only where rows hang on the order of the parts one plan may serve each of them, and none all.
    hanging = [index for index, word in enumerate(one.words) if word[1] and other.words[index][0] is not None]
    if one.planner.mode != "free" or len(hanging) < 2:
        return None
    rows = [lot[index] for index in hanging]
    found = Places(one.planner, one.condition, rows)
    for safe in safe_sets(other.planner, other.condition, rows):
        barred = bar_at(found, (), safe)
        if barred is not None:
            together = [hanging[index] for index in rows_of(barred)]
            kept = [at for at, index in enumerate(together) if other.words[index][0] == "yes"]
            return ([lot[index] for index in together], kept)
    return None


def parted(one, other, lot):
    """A tuple (rows, outcome) of an outcome that just one of two sides has, or None."""
    found = strayed(one, other, lot)
    return strayed(other, one, lot) if found is None else found


def _sides(planner, table, one, other):
    """The two sides of two conditions, and the rows of classes by both."""
    lot = class_rows(table, [one, other])
    return (Side(planner, one, lot), Side(planner, other, lot), lot)


def parting(planner, table, one, other):
    """A tuple (rows, outcome) of an outcome that just one of two conditions has there, or None."""
    mine, theirs, lot = _sides(planner, table, one, other)
    return parted(mine, theirs, lot)


def straying(planner, table, one, other):
    """A tuple (rows, outcome) of an outcome that the other condition has there and the one has not, or None."""
    mine, theirs, lot = _sides(planner, table, one, other)
    return strayed(mine, theirs, lot)


def alike(planner, table, one, other):
    """Whether at all contents of a table two conditions have the same outcomes."""
    return parting(planner, table, one, other) is None


def may_stand(planner, table, one, other):
    """Whether at all contents of a table each outcome of the other condition is one of the one."""
    return straying(planner, table, one, other) is None


def is_told_at(table, thing):
    """Whether thing is a tuple (rows, outcome) of contents of a table and an outcome by its form."""
    if not isinstance(thing, tuple) or len(thing) != 2 or not isinstance(thing[0], list):
        return False
    return _is_outcome(thing[1]) and all([table.has_row(row) for row in thing[0]])


def is_parting(planner, table, one, other, thing):
    """Whether thing is a tuple (rows, outcome) of an outcome that just one of two conditions has there."""
    if not is_told_at(table, thing):
        return False
    rows, outcome = thing
    return (outcome in outcomes(planner, one, rows)) != (outcome in outcomes(planner, other, rows))


def is_straying(planner, table, one, other, thing):
    """Whether thing is a tuple (rows, outcome) of an outcome that the other one has there and the one has not."""
    if not is_told_at(table, thing):
        return False
    rows, outcome = thing
    return outcome in outcomes(planner, other, rows) and outcome not in outcomes(planner, one, rows)
