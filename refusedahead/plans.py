"""Plans: the orders in which the parts of alls and anys are asked."""

from refusedahead.asking import Asker
from refusedahead.texts import LEAVES, NODES, places
from refusedahead.values import is_integer

ERROR = ("always", "error")


def is_address(thing):
    """Whether thing may be an address, a tuple of integers."""
    return isinstance(thing, tuple) and all([is_integer(index) for index in thing])


def is_order(thing, many):
    """Whether thing is a list of the integers from 0 to one less than many, each once."""
    if not isinstance(thing, list) or not all([is_integer(index) for index in thing]):
        return False
    return sorted(thing) == list(range(many))


def orders_of(many):
    """The ascending list of all orders of as many parts."""
    found = [[]]
    for _ in range(many):
        found = [order + [index] for order in found for index in range(many) if index not in order]
    return found


def _sizes(condition):
    """The dict from the addresses of the nodes to how many parts they have."""
    return {address: len(part[1]) for address, part, _ in places(condition) if part[0] in NODES}


def is_plan(condition, thing):
    """Whether thing is a plan of a condition."""
    sizes = _sizes(condition)
    if not isinstance(thing, dict) or len(thing) != len(sizes):
        return False
    for address, order in thing.items():
        if not is_address(address) or address not in sizes or not is_order(order, sizes[address]):
            return False
    return True


def all_plans(condition):
    """The list of all plans, in the order of the lists of their orders."""
    sizes, lists = _sizes(condition), [[]]
    for many in sizes.values():
        lists = [orders + [order] for orders in lists for order in orders_of(many)]
    # Each plan gets lists of its own, so that one may be changed without the others.
    return [{address: list(order) for address, order in zip(sizes, orders)} for orders in lists]


def plan_count(condition):
    """How many plans there are."""
    found = 1
    for many in _sizes(condition).values():
        for factor in range(2, many + 1):
            found *= factor
    return found


def text_plan(condition):
    """The plan with ascending orders."""
    return {address: list(range(many)) for address, many in _sizes(condition).items()}


def plans_by(planner, condition):
    """The list of the plans that a Planner may choose."""
    return all_plans(condition) if planner.mode == "free" else [text_plan(condition)]


def is_plan_by(planner, condition, thing):
    """Whether thing is a plan that a Planner may choose."""
    return is_plan(condition, thing) and (planner.mode == "free" or thing == text_plan(condition))


def erring_alwayses(condition):
    """The ascending list of the addresses of the leaves that always err."""
    return [address for address, part, _ in places(condition) if part[0] in LEAVES and part == ERROR]


def folds_err(planner, condition):
    """Whether a Planner finds ahead of all rows that the whole errs."""
    return planner.folds and len(erring_alwayses(condition)) > 0


def asker_by(planner, plan, row):
    """What asks the parts of a condition at a row as a Planner does by a plan."""
    every = planner.mode == "every"
    return Asker(row, {} if every else plan, every, planner.unknown)


def run(planner, condition, plan, row):
    """What a condition answers at a row by a plan."""
    if folds_err(planner, condition):
        return "error"
    return asker_by(planner, plan, row).said(condition, (), True)


def asked_by(planner, condition, plan, row):
    """The list of the tuples (address, answer) of the leaves that are asked by a plan, in order."""
    asker = asker_by(planner, plan, row)
    asker.said(condition, (), True)
    return asker.trail


def kept_by(planner, condition, plan, contents):
    """The ascending list of the indexes of the rows that a plan keeps, or None if it errs."""
    if folds_err(planner, condition):
        return None
    said = [asker_by(planner, plan, row).said(condition, (), True) for row in contents]
    if "error" in said:
        return None
    return [index for index, word in enumerate(said) if word == "yes"]
