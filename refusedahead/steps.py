"""Steps that lead a number on or err, and what they lead from where."""

from refusedahead.errors import Errs
from refusedahead.spans import Spans
from refusedahead.values import is_number


def _is_entry(thing):
    """Whether thing is a tuple (key, number)."""
    return isinstance(thing, tuple) and len(thing) == 2 and all([is_number(one) for one in thing])


def _are_entries(thing):
    """Whether thing is a tuple of entries with ascending keys."""
    if not isinstance(thing, tuple) or not all([_is_entry(entry) for entry in thing]):
        return False
    return all([one[0] < other[0] for one, other in zip(thing, thing[1:])])


def is_step(thing):
    """Whether thing is a step."""
    if not isinstance(thing, tuple) or len(thing) != 2 or not isinstance(thing[0], str):
        return False
    kind, worth = thing
    if kind == "found":
        return _are_entries(worth)
    if not is_number(worth):
        return False
    if kind == "times":
        return worth != 0
    if kind == "into":
        return worth >= 1
    return kind in ("over", "plus")


def are_steps(thing):
    """Whether thing is a tuple of steps."""
    return isinstance(thing, tuple) and all([is_step(step) for step in thing])


def step_on(step, number):
    """What a step leads an integer to; raises Errs where it errs."""
    kind, worth = step
    if kind == "plus":
        return number + worth
    if kind == "times":
        return number * worth
    if kind == "into":
        return number // worth
    if kind == "over" and number != 0:
        return worth // number
    if kind == "found":
        for key, goal in worth:
            if key == number:
                return goal
    raise Errs(number)


def steps_on(steps, number):
    """What steps lead an integer to; raises Errs where one of them errs."""
    found = number
    for step in steps:
        found = step_on(step, found)
    return found


def _pair(low, high):
    """The list of the pair from low to high, or none if nothing lies in it."""
    if low is not None and high is not None and low > high:
        return []
    return [(low, high)]


def _opposite(end):
    """The end at the other side of 0."""
    return None if end is None else -end


def _mirrored(pairs):
    """The pairs of the same integers with the other sign."""
    return [(_opposite(high), _opposite(low)) for low, high in pairs]


def _before_plus(k, low, high):
    """The pairs of the n with low <= n + k <= high."""
    return [(None if low is None else low - k, None if high is None else high - k)]


def _before_times(k, low, high):
    """The pairs of the n with low <= n * k <= high."""
    if k < 0:
        return _mirrored(_before_times(-k, low, high))
    # -(-low // k) is low divided by k and rounded up.
    return _pair(None if low is None else -(-low // k), None if high is None else high // k)


def _before_into(d, low, high):
    """The pairs of the n with low <= n // d <= high."""
    return [(None if low is None else low * d, None if high is None else high * d + d - 1)]


def _before_over_above(k, low, high):
    """The pairs of the n from 1 on with low <= k // n <= high."""
    if k < 0:
        # For n from 1 on k // n is -1 - (-1 - k) // n, and -1 - k is not below 0.
        below = None if high is None else -1 - high
        above = None if low is None else -1 - low
        return _before_over_above(-1 - k, below, above)
    if high is not None and high < 0:
        return []
    # k // n falls from k down to 0, so the greatest n belong to the least results.
    first = 1 if high is None else k // (high + 1) + 1
    last = None if low is None or low <= 0 else k // low
    return _pair(first, last)


def _before_over(k, low, high):
    """The pairs of the n, not 0, with low <= k // n <= high."""
    # k // n is -k // -n, so what lies below 0 is the mirrored case of -k.
    return _before_over_above(k, low, high) + _mirrored(_before_over_above(-k, low, high))


PAIRS_BEFORE = {"into": _before_into, "over": _before_over, "plus": _before_plus, "times": _before_times}


def _before_step(step, spans):
    """The Spans of the integers that one step leads into a Spans."""
    kind, worth = step
    if kind == "found":
        return Spans([(key, key) for key, goal in worth if goal in spans])
    pairs_before = PAIRS_BEFORE[kind]
    return Spans([pair for low, high in spans for pair in pairs_before(worth, low, high)])


def before(steps, spans):
    """The Spans of the integers that steps lead into a Spans."""
    found = Spans(spans.pairs())
    for step in steps[::-1]:
        found = _before_step(step, found)
    return found


def _erring_step(step):
    """The Spans of the integers at which one step errs."""
    kind, worth = step
    if kind == "over":
        return Spans([(0, 0)])
    if kind == "found":
        return ~Spans([(key, key) for key, _ in worth])
    return Spans([])


def erring(steps):
    """The Spans of the integers at which some of the steps errs."""
    found = Spans([])
    for index, step in enumerate(steps):
        found = found | before(steps[:index], _erring_step(step))
    return found
