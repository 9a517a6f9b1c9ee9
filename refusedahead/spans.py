"""Sets of integers, told as stretches that perhaps have no end."""

from refusedahead.errors import Wrong
from refusedahead.values import is_integer


def _is_end(thing):
    """Whether thing may stand at one side of a pair."""
    return thing is None or is_integer(thing)


def _is_pair(thing):
    """Whether thing is a tuple (low, high) that some integer lies in."""
    if not isinstance(thing, tuple) or len(thing) != 2:
        return False
    low, high = thing
    if not (_is_end(low) and _is_end(high)):
        return False
    return low is None or high is None or low <= high


def _are_pairs(thing):
    """Whether thing is a list or a tuple of pairs."""
    return isinstance(thing, (list, tuple)) and all([_is_pair(pair) for pair in thing])


def _start(pair):
    """What pairs are sorted by: those without an end below come first."""
    low = pair[0]
    return (False, 0) if low is None else (True, low)


def _go_on(high, low):
    """Whether no integer lies between an end and the start of a later pair."""
    return high is None or low is None or low <= high + 1


def _farther(one, other):
    """The farther one of two ends above."""
    return None if one is None or other is None else max(one, other)


def _joined(pairs):
    """The ascending list of stretches as long as possible that pairs tell."""
    found = []
    for low, high in sorted(list(pairs), key=_start):
        if found and _go_on(found[-1][1], low):
            found[-1] = (found[-1][0], _farther(found[-1][1], high))
        else:
            found.append((low, high))
    return found


def _gaps(stretches):
    """The stretches of the integers that lie in none of these stretches."""
    if len(stretches) == 0:
        return [(None, None)]
    first, last = stretches[0][0], stretches[-1][1]
    below = [] if first is None else [(None, first - 1)]
    between = [(one[1] + 1, other[0] - 1) for one, other in zip(stretches, stretches[1:])]
    above = [] if last is None else [(last + 1, None)]
    return below + between + above


def _reaches(pair, number):
    """Whether an integer lies in a pair."""
    low, high = pair
    return (low is None or low <= number) and (high is None or number <= high)


def _nearest(pair):
    """The integer of a pair that is nearest to 0."""
    low, high = pair
    if low is not None and low > 0:
        return low
    if high is not None and high < 0:
        return high
    return 0


def _distance(number):
    """What tells how near an integer is to 0; the one above goes first."""
    return (abs(number), number < 0)


class Spans:
    """A set of integers that never changes."""

    def __init__(self, pairs):
        if not _are_pairs(pairs):
            raise Wrong(0)
        self._stretches = tuple(_joined(pairs))

    def pairs(self):
        """The ascending list of the stretches, as tuples (low, high)."""
        return list(self._stretches)

    def least(self):
        """The integer that is nearest to 0, or None if there is none."""
        return min([_nearest(pair) for pair in self._stretches], key=_distance, default=None)

    def many(self):
        """How many integers there are, or None if there is no end."""
        if None in [end for pair in self._stretches for end in pair]:
            return None
        return sum([high - low + 1 for low, high in self._stretches])

    def is_within(self, other):
        """Whether all integers are in another Spans."""
        return len(self - other) == 0

    def within(self, low, high):
        """The Spans of the integers from low to high."""
        return self & Spans([(low, high)])

    def __len__(self):
        return len(self._stretches)

    def __iter__(self):
        return iter(self._stretches)

    def __contains__(self, x):
        return is_integer(x) and any([_reaches(pair, x) for pair in self._stretches])

    def __or__(self, other):
        return Spans(self._stretches + other._stretches)

    def __and__(self, other):
        return ~(~self | ~other)

    def __sub__(self, other):
        return self & ~other

    def __invert__(self):
        return Spans(_gaps(self._stretches))

    def __eq__(self, other):
        return isinstance(other, Spans) and self._stretches == other._stretches
