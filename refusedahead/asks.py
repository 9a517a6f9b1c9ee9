"""Tests of one column, and what they answer at a value."""

from refusedahead.errors import Errs
from refusedahead.spans import Spans, spans_of
from refusedahead.steps import are_steps, before, erring, steps_on
from refusedahead.values import is_integer, is_name, is_number

ANSWERS = ("error", "no", "unknown", "yes")
OPPOSITES = {"error": "error", "no": "yes", "unknown": "unknown", "yes": "no"}

# The signs that hold for a number below, at and above the one asked for.
BELOW = ("<", "<=", "<>")
LEVEL = ("<=", "=", ">=")
ABOVE = ("<>", ">", ">=")
SIGNS = ("<", "<=", "<>", "=", ">", ">=")

# The sign that holds just where another one does not.
AGAINST = {"<": ">=", "<=": ">", "<>": "=", "=": "<>", ">": "<=", ">=": "<"}


def is_test(thing):
    """Whether thing is a test."""
    if not isinstance(thing, tuple) or len(thing) not in (2, 5):
        return False
    if not (isinstance(thing[0], str) and is_name(thing[1])):
        return False
    if len(thing) == 2:
        return thing[0] in ("empty", "number")
    kind, _, steps, sign, number = thing
    if kind != "asks" or not isinstance(sign, str):
        return False
    return are_steps(steps) and sign in SIGNS and is_number(number)


def column_of(test):
    """The name of the column that a test asks."""
    return test[1]


def _agrees(number, sign, other):
    """Whether a sign holds between two integers."""
    if number < other:
        return sign in BELOW
    if number > other:
        return sign in ABOVE
    return sign in LEVEL


def _agreeing(sign, number):
    """The Spans of the integers for which a sign and a number hold."""
    below = [(None, number - 1)] if sign in BELOW else []
    level = [(number, number)] if sign in LEVEL else []
    above = [(number + 1, None)] if sign in ABOVE else []
    return spans_of(below + level + above)


def _asks_answer(test, value):
    """What a test with steps answers at a value."""
    if value is None:
        return "unknown"
    if not is_integer(value):
        return "error"
    _, _, steps, sign, number = test
    try:
        reached = steps_on(steps, value)
    except Errs:
        return "error"
    return "yes" if _agrees(reached, sign, number) else "no"


def test_answer(test, value):
    """What a test answers at a value."""
    if test[0] == "empty":
        return "yes" if value is None else "no"
    if test[0] == "asks":
        return _asks_answer(test, value)
    if value is None:
        return "unknown"
    return "yes" if is_integer(value) else "no"


def spans_saying(test, said):
    """The Spans of the integers at which a test with steps answers error, no or yes."""
    _, _, steps, sign, number = test
    if said == "error":
        return erring(steps)
    return before(steps, _agreeing(sign if said == "yes" else AGAINST[sign], number))


def told(test):
    """The dict from the answers to the Spans of the integers that have them."""
    found = {word: Spans([]) for word in ANSWERS}
    if test[0] == "empty":
        found["no"] = Spans([(None, None)])
    elif test[0] == "number":
        found["yes"] = Spans([(None, None)])
    else:
        found["error"] = spans_saying(test, "error")
        found["yes"] = spans_saying(test, "yes")
        found["no"] = ~(found["error"] | found["yes"])
    return found
