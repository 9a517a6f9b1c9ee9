"""Conditions asked at rows, in the order of the text or by the orders of a plan."""

from refusedahead.asks import OPPOSITES, column_of, test_answer
from refusedahead.errors import NoRow
from refusedahead.texts import DECIDES, NODES


def leaf_answer(condition, row):
    """What a test or an always answers at a row."""
    if condition[0] == "always":
        return condition[1]
    return test_answer(condition, row[column_of(condition)])


class Asker:
    """Asks a condition at a row, and notes the leaves that are asked on the way.

    Nodes of which the plan has no order are asked in that of the text. With every, nodes ask all
    their parts; with lowers, an answer unknown at a plain place is taken for no.
    """

    def __init__(self, row, plan, every, lowers):
        self.row = row
        self.plan = plan
        self.every = every
        self.lowers = lowers
        self.trail = []

    def said(self, condition, address, plain):
        """What the part at an address answers there."""
        kind = condition[0]
        if kind in NODES:
            found = self._node_said(condition, address, plain)
        elif kind == "not":
            found = OPPOSITES[self.said(condition[1], address + (0,), False)]
        elif kind == "case":
            found = self._case_said(condition, address, plain)
        elif kind == "first":
            found = self._first_said(condition, address)
        else:
            found = leaf_answer(condition, self.row)
            self.trail.append((address, found))
        return "no" if self.lowers and plain and found == "unknown" else found

    def _node_said(self, condition, address, plain):
        """What an all or an any answers."""
        decisive, found = DECIDES[condition[0]], []
        for index in self.plan.get(address, list(range(len(condition[1])))):
            said = self.said(condition[1][index], address + (index,), plain)
            if said == "error" or said == decisive and not self.every:
                return said
            found.append(said)
        for word in (decisive, "unknown"):
            if word in found:
                return word
        return OPPOSITES[decisive]

    def _case_said(self, condition, address, plain):
        """What a case answers."""
        _, pairs, otherwise = condition
        for index, (when, then) in enumerate(pairs):
            said = self.said(when, address + (2 * index,), True)
            if said == "error":
                return said
            if said == "yes":
                return self.said(then, address + (2 * index + 1,), plain)
        return self.said(otherwise, address + (2 * len(pairs),), plain)

    def _first_said(self, condition, address):
        """What a first answers."""
        for index, part in enumerate(condition[1]):
            said = self.said(part, address + (index,), False)
            if said != "unknown":
                return said
        return "unknown"


def answer(condition, row):
    """What a condition answers at a row."""
    return Asker(row, {}, False, False).said(condition, (), True)


def asked(condition, row):
    """The list of the tuples (address, answer) of the leaves that are asked."""
    asker = Asker(row, {}, False, False)
    asker.said(condition, (), True)
    return asker.trail


def keeps(condition, row):
    """Whether a row is kept."""
    return answer(condition, row) == "yes"


def kept(condition, contents):
    """The ascending list of the indexes of the rows that are kept; raises NoRow if one errs."""
    said = [answer(condition, row) for row in contents]
    if "error" in said:
        raise NoRow(said.index("error"))
    return [index for index, word in enumerate(said) if word == "yes"]
