"""Guards: which parts have to be asked ahead of which, so that no order errs, in mode free."""

from refusedahead.errors import Ring
from refusedahead.orders import first_order, is_safe_order
from refusedahead.plans import is_order
from refusedahead.safe import Places
from refusedahead.texts import DECIDES
from refusedahead.values import is_integer


def _leaders(guards, part):
    """The ascending list of the parts from which guards lead to a part, perhaps itself among them."""
    found, waiting = [], [part]
    while len(waiting) > 0:
        goal = waiting.pop()
        more = [one for one, other in guards if other == goal and one not in found]
        found.extend(more)
        waiting.extend(more)
    return sorted(found)


def _all_leaders(many, guards):
    """For each of many parts the list of those that lead to it."""
    return [_leaders(guards, part) for part in range(many)]


def _rings(leaders):
    """The ascending list of the parts that lead to themselves."""
    return [part for part, ahead in enumerate(leaders) if part in ahead]


def kept_leaders(condition, guards):
    """For each part the list of those that lead to it; raises Ring if no order keeps the guards."""
    leaders = _all_leaders(len(condition[1]), guards)
    rings = _rings(leaders)
    if len(rings) > 0:
        raise Ring(rings[0])
    return leaders


def leading(condition, guards, part):
    """The ascending list of the parts from which guards lead to a part."""
    return kept_leaders(condition, guards)[part]


def _needs(planner, condition, rows):
    """The list of the tuples (row, part, deciders) of a part that errs at a row and those that decide there."""
    found, decisive = Places(planner, condition, rows), DECIDES[condition[0]]
    needs = []
    for row in found.everyone:
        values = [found.value[place][row] for place in found.below(())]
        deciders = tuple([part for part, value in enumerate(values) if value == decisive])
        needs.extend([(row, part, deciders) for part, value in enumerate(values) if value is None])
    return needs


def _unmet(needs, leaders):
    """Those of the needs of which no decider leads to the part."""
    return [need for need in needs if not any([part in leaders[need[1]] for part in need[2]])]


def is_guarded(planner, condition, rows, guards):
    """Whether no order that keeps the guards errs at a row."""
    leaders = kept_leaders(condition, guards)
    return len(_unmet(_needs(planner, condition, rows), leaders)) == 0


def least_order(leaders, order, parts):
    """An order with some more parts behind, in the least order of these that keeps the guards."""
    found, waiting = list(order), sorted(parts)
    while len(waiting) > 0:
        free = [part for part in waiting if not any([other in waiting for other in leaders[part]])]
        found.append(free[0])
        waiting.remove(free[0])
    return found


def gap(planner, condition, rows, guards):
    """A tuple (order, index) of an order that keeps the guards and a row at which it errs, or None."""
    leaders = kept_leaders(condition, guards)
    unmet = _unmet(_needs(planner, condition, rows), leaders)
    if len(unmet) == 0:
        return None
    index, part, _ = unmet[0]
    # Ahead of the part only those are asked that have to be, and none of them decides.
    start = least_order(leaders, [], leaders[part] + [part])
    others = [other for other in range(len(leaders)) if other not in start]
    return (least_order(leaders, start, others), index)


def is_gap(planner, condition, rows, guards, thing):
    """Whether thing is a tuple (order, index) of an order that keeps the guards and a row at which it errs."""
    kept_leaders(condition, guards)
    if not isinstance(thing, tuple) or len(thing) != 2:
        return False
    order, index = thing
    if not is_order(order, len(condition[1])) or not is_integer(index) or not 0 <= index < len(rows):
        return False
    if not all([order.index(one) < order.index(other) for one, other in guards]):
        return False
    return not is_safe_order(planner, condition, [rows[index]], order)


def guards_for(planner, condition, rows):
    """Guards with which the condition is guarded, or None if there are none."""
    order = first_order(planner, condition, rows)
    if order is None:
        return None
    found = []
    for _, part, deciders in _needs(planner, condition, rows):
        # The order is safe, so the first one of it that decides at the row stands ahead of the part.
        first = [other for other in order if other in deciders][0]
        found.append((first, part))
    return sorted(set(found))


def needless(planner, condition, rows, guards):
    """The ascending list of the guards without each of which the condition is guarded, too."""
    many, needs = len(kept_leaders(condition, guards)), _needs(planner, condition, rows)
    found = []
    for guard in sorted(guards):
        others = [other for other in guards if other != guard]
        if len(_unmet(needs, _all_leaders(many, others))) == 0:
            found.append(guard)
    return found


def _choices(many):
    """The list of all ascending lists of guards of many parts that hold no guard both ways about."""
    found = [[]]
    for one in range(many):
        for other in range(one):
            found = [guards + more for guards in found for more in ([], [(one, other)], [(other, one)])]
    return [sorted(guards) for guards in found]


def least_guards(planner, condition, rows):
    """The ascending list of all least guards with which the condition is guarded."""
    many = len(condition[1])
    # Which row it is means nothing here, so equal needs are looked at once.
    needs = sorted({(0, part, deciders) for _, part, deciders in _needs(planner, condition, rows)})
    guarded = {}
    for guards in _choices(many):
        leaders = _all_leaders(many, guards)
        if len(_rings(leaders)) == 0 and len(_unmet(needs, leaders)) == 0:
            guarded[tuple(guards)] = guards
    found = []
    for guards in guarded.values():
        fewer = [tuple([other for other in guards if other != guard]) for guard in guards]
        if not any([key in guarded for key in fewer]):
            found.append(guards)
    return sorted(found)


def cheapest(planner, condition, rows, prices):
    """A tuple (price, guards) of the cheapest guards with which the condition is guarded, or None."""
    found = []
    for guards in least_guards(planner, condition, rows):
        found.append((sum([prices.get(guard, 1) for guard in guards]), guards))
    return min(found, default=None)
