"""Joins for the tests, gone through row by row, told once more by itself."""

import itertools

from refusedahead.joins import Join
from refusedahead.tables import Table
from tests.comparing import renamed
from tests.makers import make_test
from tests.planning import all_places, chosen, folded, leaf, make_frame, right_asked_by


def columns_asked(condition):
    """The names of the columns that a condition asks."""
    return {part[1] for _, part in all_places(condition) if part[0] in ("asks", "empty", "number")}


def right_tops(condition):
    """The top parts, by address."""
    if condition[0] == "all":
        return {(index,): part for index, part in enumerate(condition[1])}
    return {(): condition}


def right_sides(join, condition):
    """The single top parts: for each address the Table whose columns it asks."""
    found = {}
    for address, part in right_tops(condition).items():
        for side, table in (("left", join.left), ("right", join.right)):
            names = columns_asked(part)
            if names and names <= set(table.names()):
                found[address] = side
    return found


def right_ways(planner, join, condition):
    """All ways that a planner may choose."""
    singles = sorted(right_sides(join, condition))
    lots = [[]]
    if planner.beneath:
        lots = [list(lot) for many in range(len(singles) + 1) for lot in itertools.combinations(singles, many)]
    return [(lot, plan) for plan in chosen(planner, condition) for lot in sorted(lots)]


def joins(join, one, other):
    """Whether two rows join."""
    return one[join.one] is not None and one[join.one] == other[join.other]


def right_holds(join, lefts, rights):
    """Whether rows of the Tables are contents of the join."""
    return not join.partner or all(any(joins(join, one, other) for other in rights) for one in lefts)


def right_rows(join, lefts, rights):
    return [dict(sorted({**one, **other}.items())) for one in lefts for other in rights if joins(join, one, other)]


def ask_some(planner, condition, plan, addresses, row):
    """What the all of some top parts alone answers at a row, written as a condition with a plan of its own."""
    if condition[0] != "all":
        return right_asked_by(planner, condition, plan, row)[0] if addresses else "yes"
    ordered = [index for index in plan[()] if (index,) in addresses]
    parts = ("all", tuple([condition[1][index] for index in ordered]))
    orders = {(): list(range(len(ordered)))}
    for at, index in enumerate(ordered):
        for address, order in plan.items():
            if address[:1] == (index,):
                orders[(at,) + address[1:]] = order
    return right_asked_by(planner, parts, orders, row)[0]


def right_run_join(planner, join, condition, way, contents):
    """The joined rows that are kept, or None if there is an error."""
    lot, plan = way
    if folded(planner, condition):
        return None
    sides, passed, errs = right_sides(join, condition), [], False
    for side, rows in zip(("left", "right"), contents):
        mine = [address for address in lot if sides[address] == side]
        said = [ask_some(planner, condition, plan, mine, row) for row in rows]
        errs = errs or "error" in said
        passed.append([row for row, word in zip(rows, said) if word == "yes"])
    rest = [address for address in right_tops(condition) if address not in lot]
    rows = right_rows(join, *passed)
    said = [ask_some(planner, condition, plan, rest, row) for row in rows]
    if errs or "error" in said:
        return None
    return [row for row, word in zip(rows, said) if word == "yes"]


def make_join(source, partner=None):
    """A Join of small Tables with columns a, b on the left and c, d on the right."""
    tables = []
    for names in ("ab", "cd"):
        names = names[:source.choice((1, 2))]
        columns = []
        for name in names:
            low = source.choice((0, 0, 1))
            columns.append((name, low, source.choice((low, 2, 2)), source.random() < 0.4, source.random() < 0.2))
        indexes = [source.choice((leaf(name), make_test(source, name))) for name in names if source.random() < 0.2]
        tables.append(Table(columns, indexes))
    one, other = [source.choice([column[0] for column in table.columns()]) for table in tables]
    return Join(tables[0], tables[1], one, other, partner=source.random() < 0.5 if partner is None else partner)


def make_asked(source, join, most_plans=24):
    """A condition on both Tables, its root often an all."""
    names = join.left.names() + join.right.names()
    if source.random() < 0.3:
        return renamed(source, make_frame(source, 2, most_plans, most_leaves=6).condition, names)
    below = []
    for _ in range(source.choice((1, 2, 2, 3, 3))):
        mine = source.choice((join.left.names(), join.right.names(), names))
        below.append(renamed(source, make_frame(source, 1, 2, most_leaves=2).condition, mine))
    return ("all", tuple(below))
