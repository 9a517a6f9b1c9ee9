"""Orders of the parts of an all or any, in mode free, by which some plan is safe."""

from refusedahead.plans import is_order
from refusedahead.safe import Places


def is_safe_order(planner, condition, rows, thing):
    """Whether thing is an order that some safe plan has."""
    if not is_order(thing, len(condition[1])):
        return False
    found = Places(planner, condition, rows)
    left = found.everyone
    for part in thing:
        if not found.lays((part,), left, {}):
            return False
        left = found.still_open((), left, [part])
    return True


def safe_orders(planner, condition, rows):
    """The ascending list of all safe orders."""
    found = Places(planner, condition, rows)
    orders, followers = [[]], {}
    for _ in condition[1]:
        longer = []
        # Behind the loop both names mean one list, so a copy is walked.
        for order in list(orders):
            lot = tuple(sorted(order))
            if lot not in followers:
                followers[lot] = found.followers((), found.everyone, order)
            longer.extend([order + [part] for part in followers[lot]])
        orders = longer
    return orders


def count_orders(planner, condition, rows):
    """How many safe orders there are."""
    found = Places(planner, condition, rows)
    counts = {(): 1}
    for _ in condition[1]:
        longer = {}
        for lot, many in list(counts.items()):
            for part in found.followers((), found.everyone, lot):
                key = tuple(sorted(lot + (part,)))
                longer[key] = longer.get(key, 0) + many
        counts = longer
    return sum(counts.values())


def first_order(planner, condition, rows):
    """The least safe order, or None if there is none."""
    found = Places(planner, condition, rows)
    order = found.taken((), found.everyone, {})
    return order if len(order) == len(condition[1]) else None


def _taken_without(found, part):
    """The parts that come to be taken if one of them never is."""
    lot, following = [], [part]
    while len(following) > 0:
        following = [other for other in found.followers((), found.everyone, lot) if other != part]
        lot.extend(following)
    return lot


def forced(planner, condition, rows):
    """The ascending list of the (i, j) with i ahead of j in each safe order, or None if there is no such order."""
    if first_order(planner, condition, rows) is None:
        return None
    found, pairs = Places(planner, condition, rows), []
    every = list(range(len(condition[1])))
    for part in every:
        # What is taken without a part may stand ahead of it, since each safe start can be gone on with.
        lot = _taken_without(found, part)
        pairs.extend([(part, other) for other in every if other != part and other not in lot])
    return pairs
