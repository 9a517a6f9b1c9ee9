"""Planners: in which orders conditions may be asked, and what is taken for what."""

from refusedahead.errors import Wrong

MODES = ("every", "free", "text")
TRUTHS = ("unknown", "folds", "beneath", "early")


def _is_mode(thing):
    """Whether thing is a mode."""
    return isinstance(thing, str) and thing in MODES


class Planner:
    """A mode and four truths; it never changes."""

    def __init__(self, mode, *, unknown=False, folds=False, beneath=False, early=False):
        if not _is_mode(mode):
            raise Wrong(0)
        self._mode = mode
        self._truths = (unknown, folds, beneath, early)
        for index, truth in enumerate(self._truths):
            if not isinstance(truth, bool):
                raise Wrong(index + 1)

    @property
    def mode(self):
        """Which orders may be chosen: every, free or text."""
        return self._mode

    @property
    def unknown(self):
        """Whether an answer unknown at a plain place is taken for no."""
        return self._truths[0]

    @property
    def folds(self):
        """Whether what always errs makes the whole err ahead of all rows."""
        return self._truths[1]

    @property
    def beneath(self):
        """Whether parts may be asked beneath a join."""
        return self._truths[2]

    @property
    def early(self):
        """Whether terms may be worked out for rows that are not kept."""
        return self._truths[3]

    def with_mode(self, mode):
        """The Planner with another mode."""
        if not _is_mode(mode):
            raise Wrong(0)
        return _planner(mode, self._truths)

    def with_truth(self, word, truth):
        """The Planner with another truth, told by its name."""
        if not isinstance(word, str) or word not in TRUTHS:
            raise Wrong(0)
        if not isinstance(truth, bool):
            raise Wrong(1)
        return _planner(self._mode, [truth if name == word else old for name, old in zip(TRUTHS, self._truths)])

    def is_within(self, other):
        """Whether each error that can come by this Planner can come by another, as both are told."""
        if self._mode not in (other.mode, "text") or other.unknown and not self.unknown:
            return False
        return all([theirs or not mine for mine, theirs in zip(self._truths[1:], other._truths[1:])])

    def __eq__(self, other):
        return isinstance(other, Planner) and self._mode == other._mode and self._truths == other._truths


def _planner(mode, truths):
    """The Planner with a mode and the four truths in their order."""
    unknown, folds, beneath, early = truths
    return Planner(mode, unknown=unknown, folds=folds, beneath=beneath, early=early)


def all_planners():
    """The list of all Planners, the modes ascending and the last truth changing fastest."""
    lists = [()]
    for _ in TRUTHS:
        lists = [truths + (truth,) for truths in lists for truth in (False, True)]
    return [_planner(mode, truths) for mode in MODES for truths in lists]
