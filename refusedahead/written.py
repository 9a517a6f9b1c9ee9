"""Conditions written anew: in the orders of a plan, or with guards ahead of their parts."""

from refusedahead.guards import kept_leaders, least_order
from refusedahead.texts import LEAVES, NODES, parts, with_parts


def _laid_at(condition, address, plan):
    """The part at an address with the parts of each node in it in their order."""
    if condition[0] in LEAVES:
        return condition
    below = [_laid_at(part, address + (index,), plan) for index, part in enumerate(parts(condition))]
    if condition[0] in NODES:
        below = [below[index] for index in plan[address]]
    return with_parts(condition, below)


def laid(condition, plan):
    """The condition in which the parts of each node stand in their order by a plan."""
    return _laid_at(condition, (), plan)


def _behind_guards(kind, ahead, part):
    """A part of an all or an any as a case that asks the parts ahead of it first, if there are some."""
    if len(ahead) == 0:
        return part
    if kind == "all":
        return ("case", tuple([(("not", other), ("always", "no")) for other in ahead]), part)
    return ("case", tuple([(other, ("always", "yes")) for other in ahead]), part)


def _ordered_leaders(condition, guards):
    """For each part the parts that lead to it, in the least order of these that keeps the guards."""
    leaders = kept_leaders(condition, guards)
    return [least_order(leaders, [], ahead) for ahead in leaders]


def with_guards(condition, guards):
    """The condition in which each part is a case of those that lead to it; raises Ring if no order keeps the guards."""
    kind, below = condition
    found = []
    for part, leaders in zip(below, _ordered_leaders(condition, guards)):
        found.append(_behind_guards(kind, [below[index] for index in leaders], part))
    return (kind, tuple(found))
