"""Sets of integers, told as stretches that perhaps have no end."""

from refusedahead.errors import Wrong
from refusedahead.values import is_integer


def _is_end(thing):
    """Whether thing may stand at one side of a pair."""
    return thing is None or is_integer(thing)


def _is_pair(thing):
    """Whether thing is a tuple (low, high) that some integer lies in."""
    if not isinstance(thing, tuple) or len(thing) != 2:
        return False
    low, high = thing
    if not (_is_end(low) and _is_end(high)):
        return False
    return low is None or high is None or low <= high


def _are_pairs(thing):
    """Whether thing is a list or a tuple of pairs."""
    if not isinstance(thing, (list, tuple)):
        return False
    for pair in thing:
        if not _is_pair(pair):
            return False
    return True


def _low(pair):
    """Where a pair starts."""
    return pair[0]


def _in_order(pairs):
    """The list of pairs by where they start, those without an end below first."""
    endless = [pair for pair in pairs if pair[0] is None]
    return endless + sorted([pair for pair in pairs if pair[0] is not None], key=_low)


def _joined(pairs):
    """The ascending tuple of stretches as long as possible that pairs tell."""
    if len(pairs) < 2:
        return tuple(pairs)
    ordered = _in_order(pairs)
    found = []
    first, last = ordered[0]
    for low, high in ordered[1:]:
        if last is None:
            break
        if low is not None and low > last + 1:
            found.append((first, last))
            first, last = low, high
        elif high is None or high > last:
            last = high
    found.append((first, last))
    return tuple(found)


def _gaps(stretches):
    """The stretches of the integers that lie in none of these stretches."""
    if len(stretches) == 0:
        return [(None, None)]
    first, last = stretches[0][0], stretches[-1][1]
    below = [] if first is None else [(None, first - 1)]
    between = [(one[1] + 1, other[0] - 1) for one, other in zip(stretches, stretches[1:])]
    above = [] if last is None else [(last + 1, None)]
    return below + between + above


def _later(one, other):
    """The later one of two starts."""
    if one is None or other is None:
        return other if one is None else one
    return max(one, other)


def _is_earlier(one, other):
    """Whether one end above is ahead of the other one."""
    return one is not None and (other is None or one < other)


def _met(ones, others):
    """The stretches of the integers that lie in a stretch of both."""
    found = []
    at = 0
    beside = 0
    while at < len(ones) and beside < len(others):
        low, high = _later(ones[at][0], others[beside][0]), ones[at][1]
        if _is_earlier(high, others[beside][1]):
            at += 1
        else:
            high = others[beside][1]
            beside += 1
        if low is None or high is None or low <= high:
            found.append((low, high))
    return found


def _nearest(pair):
    """The integer of a pair that is nearest to 0."""
    low, high = pair
    if low is not None and low > 0:
        return low
    if high is not None and high < 0:
        return high
    return 0


def _distance(number):
    """What tells how near an integer is to 0; the one above goes first."""
    return (abs(number), number < 0)


class Spans:
    """A set of integers that never changes."""

    def __init__(self, pairs):
        if not _are_pairs(pairs):
            raise Wrong(0)
        self._stretches = _joined(pairs)

    def pairs(self):
        """The ascending list of the stretches, as tuples (low, high)."""
        return list(self._stretches)

    def least(self):
        """The integer that is nearest to 0, or None if there is none."""
        return min([_nearest(pair) for pair in self._stretches], key=_distance, default=None)

    def many(self):
        """How many integers there are, or None if there is no end."""
        stretches = self._stretches
        if len(stretches) > 0 and (stretches[0][0] is None or stretches[-1][1] is None):
            return None
        return sum([high - low + 1 for low, high in stretches])

    def is_within(self, other):
        """Whether all integers are in another Spans."""
        return len(self - other) == 0

    def within(self, low, high):
        """The Spans of the integers from low to high."""
        return _made(_met(self._stretches, [(low, high)]))

    def __len__(self):
        return len(self._stretches)

    def __iter__(self):
        return iter(self._stretches)

    def __contains__(self, x):
        # This is asked far more often than all else, so it calls nothing of the package.
        if not isinstance(x, int) or isinstance(x, bool):
            return False
        for low, high in self._stretches:
            if high is None or x <= high:
                return low is None or low <= x
        return False

    def __or__(self, other):
        return spans_of(self._stretches + other._stretches)

    def __and__(self, other):
        return _made(_met(self._stretches, other._stretches))

    def __sub__(self, other):
        return _made(_met(self._stretches, _gaps(other._stretches)))

    def __invert__(self):
        return _made(_gaps(self._stretches))

    def __eq__(self, other):
        return isinstance(other, Spans) and self._stretches == other._stretches


def _made(stretches):
    """The Spans of ascending stretches that are as long as possible."""
    found = Spans(())
    found._stretches = tuple(stretches)
    return found


def spans_of(pairs):
    """The Spans of what surely is a list or a tuple of pairs, so that this is not looked at again."""
    return _made(_joined(pairs))
