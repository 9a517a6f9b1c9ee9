"""Steps that lead a number on or err, and what they lead from where."""

from refusedahead.errors import Errs
from refusedahead.spans import spans_of
from refusedahead.values import is_number


def _is_entry(thing):
    """Whether thing is a tuple (key, number)."""
    return isinstance(thing, tuple) and len(thing) == 2 and all([is_number(one) for one in thing])


def _are_entries(thing):
    """Whether thing is a tuple of entries with ascending keys."""
    if not isinstance(thing, tuple) or not all([_is_entry(entry) for entry in thing]):
        return False
    return all([one[0] < other[0] for one, other in zip(thing, thing[1:])])


def is_step(thing):
    """Whether thing is a step."""
    if not isinstance(thing, tuple) or len(thing) != 2 or not isinstance(thing[0], str):
        return False
    kind, worth = thing
    if kind == "found":
        return _are_entries(worth)
    if not is_number(worth):
        return False
    if kind == "times":
        return worth != 0
    if kind == "into":
        return worth >= 1
    return kind in ("over", "plus")


def are_steps(thing):
    """Whether thing is a tuple of steps."""
    return isinstance(thing, tuple) and all([is_step(step) for step in thing])


def _goal_of(entries, number):
    """The number that belongs to a key; raises Errs for what is no key."""
    for key, goal in entries:
        if key == number:
            return goal
    raise Errs(number)


def steps_on(steps, number):
    """What steps lead an integer to; raises Errs where one of them errs."""
    found = number
    for kind, worth in steps:
        if kind == "over":
            if found == 0:
                raise Errs(found)
            found = worth // found
        elif kind == "plus":
            found = found + worth
        elif kind == "times":
            found = found * worth
        elif kind == "into":
            found = found // worth
        else:
            found = _goal_of(worth, found)
    return found


def step_on(step, number):
    """What a step leads an integer to; raises Errs where it errs."""
    return steps_on((step,), number)


def _mirrored(pairs):
    """The pairs of the same integers with the other sign."""
    return [(None if high is None else -high, None if low is None else -low) for low, high in pairs]


def _before_plus(k, pairs):
    """The pairs of the n with n + k in one of the pairs."""
    return [(None if low is None else low - k, None if high is None else high - k) for low, high in pairs]


def _before_times(k, pairs):
    """The pairs of the n with n * k in one of the pairs."""
    if k < 0:
        return _before_times(-k, _mirrored(pairs))
    found = []
    for low, high in pairs:
        # -(-low // k) is low divided by k and rounded up.
        first, last = None if low is None else -(-low // k), None if high is None else high // k
        if first is None or last is None or first <= last:
            found.append((first, last))
    return found


def _before_into(d, pairs):
    """The pairs of the n with n // d in one of the pairs."""
    return [(None if low is None else low * d, None if high is None else high * d + d - 1) for low, high in pairs]


def _before_over_above(k, pairs):
    """The pairs of the n from 1 on with k // n in one of the pairs."""
    if k < 0:
        # For n from 1 on k // n is -1 - (-1 - k) // n, and -1 - k is not below 0.
        return _before_over_above(-1 - k, _before_plus(1, _mirrored(pairs)))
    found = []
    for low, high in pairs:
        if high is not None and high < 0:
            continue
        # k // n falls from k down to 0, so the greatest n belong to the least results.
        first = 1 if high is None else k // (high + 1) + 1
        last = None if low is None or low <= 0 else k // low
        if last is None or first <= last:
            found.append((first, last))
    return found


def _before_over(k, pairs):
    """The pairs of the n, not 0, with k // n in one of the pairs."""
    # k // n is -k // -n, so what lies below 0 is the mirrored case of -k.
    return _before_over_above(k, pairs) + _mirrored(_before_over_above(-k, pairs))


def _before_found(entries, pairs):
    """The pairs of the keys whose number is in one of the pairs."""
    spans = spans_of(pairs)
    return [(key, key) for key, goal in entries if goal in spans]


PAIRS_BEFORE = {
    "found": _before_found, "into": _before_into, "over": _before_over, "plus": _before_plus, "times": _before_times}


def _before_step(step, pairs):
    """The pairs of the integers that one step leads into one of the pairs."""
    kind, worth = step
    pairs_before = PAIRS_BEFORE[kind]
    return pairs_before(worth, pairs)


def before(steps, spans):
    """The Spans of the integers that steps lead into a Spans."""
    found = spans.pairs()
    for step in steps[::-1]:
        found = _before_step(step, found)
    return spans_of(found)


def _erring_step(step):
    """The pairs of the integers at which one step errs."""
    kind, worth = step
    if kind == "over":
        return [(0, 0)]
    if kind != "found":
        return []
    lows, highs = [None] + [key + 1 for key, _ in worth], [key - 1 for key, _ in worth] + [None]
    return [(low, high) for low, high in zip(lows, highs) if low is None or high is None or low <= high]


def erring(steps):
    """The Spans of the integers at which some of the steps errs."""
    found = []
    for step in steps[::-1]:
        found = _erring_step(step) + _before_step(step, found)
    return spans_of(found)
