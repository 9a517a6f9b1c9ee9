"""Plans that err at none of some rows, found by taking the parts of each node one by one."""

from refusedahead.errs import words_over
from refusedahead.plans import folds_err, is_plan_by, kept_by, text_plan
from refusedahead.texts import DECIDES, LEAVES, NODES, parts, places


class Places:
    """The places of a condition, with the values of the parts there at rows, in mode free.

    Rows are told by their indexes. Those that come to a part are passed; which of them come to
    its own parts is told by the values, and a value is None where each plan of a part errs.
    """

    def __init__(self, planner, condition, rows):
        words = words_over(planner, condition, rows)
        self.everyone = list(range(len(rows)))
        self.part = {address: part for address, part, _ in places(condition)}
        self.value = {address: [word[address][0] for word in words] for address in self.part}

    def kind(self, address):
        """The kind of the part at an address."""
        return self.part[address][0]

    def below(self, address):
        """The list of the addresses of the parts of the part at an address."""
        return [address + (index,) for index in range(len(parts(self.part[address])))]

    def having(self, address, coming, values):
        """Those of the rows that come at which the part has one of these values."""
        told = self.value[address]
        return [row for row in coming if told[row] in values]

    def comers(self, address, coming):
        """For each part of a not, a case or a first the list of the rows that come to it."""
        if self.kind(address) == "case":
            return self._case_comers(address, coming)
        found, left = [], coming
        for place in self.below(address):
            found.append(left)
            left = self.having(place, left, ("unknown",))
        return found

    def _case_comers(self, address, coming):
        """For each when, each then and the else the list of the rows that come to it."""
        found, left = [], coming
        for when in self.below(address)[:-1:2]:
            found.extend([left, self.having(when, left, ("yes",))])
            left = self.having(when, left, ("no", "unknown"))
        return found + [left]

    def still_open(self, address, coming, lot):
        """Those of the rows that come which no part of the lot decides."""
        left, decisive = coming, DECIDES[self.kind(address)]
        for index in lot:
            told = self.value[address + (index,)]
            left = [row for row in left if told[row] != decisive]
        return left

    def followers(self, address, coming, lot):
        """The ascending list of the parts of a node that may be taken behind a lot of them."""
        left = self.still_open(address, coming, lot)
        waiting = [index for index in range(len(self.below(address))) if index not in lot]
        return [index for index in waiting if self.lays(address + (index,), left, {})]

    def taken(self, address, coming, plan):
        """The parts of a node that come to be taken, in order, the least that may follow first.

        The orders of the nodes within them are put into plan.
        """
        order, left, waiting, at = [], coming, list(range(len(self.below(address)))), 0
        while at < len(waiting):
            index = waiting[at]
            if self.lays(address + (index,), left, plan):
                left = self.still_open(address, left, [index])
                order.append(index)
                waiting.pop(at)
                at = 0
            else:
                at += 1
        return order

    def lays(self, address, coming, plan):
        """Whether some plan of the part errs at none of the rows that come; it is put into plan."""
        told = self.value[address]
        if None in [told[row] for row in coming]:
            return False
        if self.kind(address) in LEAVES:
            return True
        if self.kind(address) in NODES:
            plan[address] = self.taken(address, coming, plan)
            return len(plan[address]) == len(self.below(address))
        for place, rows in zip(self.below(address), self.comers(address, coming)):
            if not self.lays(place, rows, plan):
                return False
        return True


def safe_plan(planner, condition, rows):
    """A plan that a planner may choose and that errs at none of the rows, or None."""
    if planner.mode != "free" or folds_err(planner, condition):
        plan = text_plan(condition)
        return None if kept_by(planner, condition, plan, rows) is None else plan
    found, plan = Places(planner, condition, rows), {}
    if not found.lays((), found.everyone, plan):
        return None
    return {address: plan[address] for address in sorted(plan)}


def is_safe_plan(planner, condition, rows, thing):
    """Whether thing is a plan that a planner may choose and that errs at none of the rows."""
    return is_plan_by(planner, condition, thing) and kept_by(planner, condition, thing, rows) is not None


def open_rows(planner, condition, rows, lot):
    """The ascending list of the rows that are open behind a lot of parts."""
    found = Places(planner, condition, rows)
    return found.still_open((), found.everyone, lot)


def may_follow(planner, condition, rows, lot):
    """The ascending list of the parts that may be taken behind a lot of parts."""
    found = Places(planner, condition, rows)
    return found.followers((), found.everyone, lot)


def greatest_lot(planner, condition, rows):
    """The ascending list of the parts that come to be taken, until none may follow."""
    found = Places(planner, condition, rows)
    return sorted(found.taken((), found.everyone, {}))
