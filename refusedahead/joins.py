"""Joins of two tables, and conditions that may be asked beneath them."""

from refusedahead.asking import Asker
from refusedahead.cells import cells_of, met, value_for
from refusedahead.classes import class_rows, tests_by_column
from refusedahead.errors import NoColumn, Twice, Wrong
from refusedahead.errs import plan_for, root_words
from refusedahead.plans import folds_err, is_address, is_plan_by, plans_by, run, text_plan
from refusedahead.tables import Table
from refusedahead.texts import columns_in
from refusedahead.values import is_name


class Join:
    """Two tables whose rows are joined where a column of each has the same value; it never changes."""

    def __init__(self, left, right, one, other, *, partner=False):
        described = [isinstance(left, Table), isinstance(right, Table), is_name(one), is_name(other),
                     isinstance(partner, bool)]
        if False in described:
            raise Wrong(described.index(False))
        shared = [name for name in left.names() if name in right]
        if len(shared) > 0:
            raise Twice(shared[0])
        if one not in left:
            raise NoColumn(one)
        if other not in right:
            raise NoColumn(other)
        self._left = left
        self._right = right
        self._one = one
        self._other = other
        self._partner = partner

    @property
    def left(self):
        """The Table of the rows on the left."""
        return self._left

    @property
    def right(self):
        """The Table of the rows on the right."""
        return self._right

    @property
    def one(self):
        """The name of the column on the left by which is joined."""
        return self._one

    @property
    def other(self):
        """The name of the column on the right by which is joined."""
        return self._other

    @property
    def partner(self):
        """Whether each row on the left joins with some row on the right."""
        return self._partner

    def holds(self, thing):
        """Whether thing is contents of the join."""
        if not isinstance(thing, tuple) or len(thing) != 2:
            return False
        lefts, rights = thing
        if not isinstance(lefts, list) or not isinstance(rights, list):
            return False
        if not all([self._left.has_row(row) for row in lefts]):
            return False
        if not all([self._right.has_row(row) for row in rights]):
            return False
        return not self._partner or self._all_join(lefts, rights)

    def _all_join(self, lefts, rights):
        """Whether each of the rows on the left joins with some row on the right."""
        values = {row[self._other]: True for row in rights if row[self._other] is not None}
        return all([row[self._one] in values for row in lefts])

    def rows(self, contents):
        """The list of the joined rows: those of the first row on the left ahead, in the order of the right."""
        lefts, rights = contents
        joining = {}
        for row in rights:
            if row[self._other] is not None:
                joining.setdefault(row[self._other], []).append(row)
        return [joined_row(row, more) for row in lefts for more in joining.get(row[self._one], [])]

    def __eq__(self, other):
        return (isinstance(other, Join) and self._left == other._left and self._right == other._right
                and self._one == other._one and self._other == other._other and self._partner == other._partner)


def joined_row(row, more):
    """The row of all values of two rows, its names ascending."""
    both = {**row, **more}
    return {name: both[name] for name in sorted(both)}


def _row_of(table, row):
    """The row of a table that a joined row is made of."""
    return {name: row[name] for name in table.names()}


def _tops(condition):
    """The list of the tuples (address, part) of the top parts, in order."""
    if condition[0] == "all":
        return [((index,), part) for index, part in enumerate(condition[1])]
    return [((), condition)]


def _singles(join, condition):
    """The list of the tuples (address, part, whether it asks the left) of the single top parts, in order."""
    found = []
    for address, part in _tops(condition):
        asked_left = [name in join.left for name in columns_in(part)]
        if len(asked_left) > 0 and (all(asked_left) or not any(asked_left)):
            found.append((address, part, asked_left[0]))
    return found


def join_ways(planner, join, condition):
    """The list of the ways that a Planner may choose."""
    lots = [[]]
    if planner.beneath:
        for address, _, _ in _singles(join, condition):
            lots = lots + [lot + [address] for lot in lots]
    # Each way gets lists of its own, so that one may be changed without the others.
    return [(list(lot), {address: list(order) for address, order in plan.items()})
            for plan in plans_by(planner, condition) for lot in sorted(lots)]


def _answers_of(planner, condition, plan, addresses, rows):
    """The list of what the all of some top parts alone answers at rows."""
    if len(addresses) == 0:
        return ["yes"] * len(rows)
    if condition[0] != "all":
        return [run(planner, condition, plan, row) for row in rows]
    # An all whose order lacks parts is the all of the others alone.
    orders, every = {**plan, (): [index for index in plan[()] if (index,) in addresses]}, planner.mode == "every"
    return [Asker(row, orders, every, planner.unknown).said(condition, (), True) for row in rows]


def _let_through(planner, condition, plan, addresses, rows):
    """The list of the rows at which the all of some top parts alone answers yes, or None if it errs at one."""
    answers = _answers_of(planner, condition, plan, addresses, rows)
    if "error" in answers:
        return None
    return [row for row, said in zip(rows, answers) if said == "yes"]


def run_join(planner, join, condition, way, contents):
    """The list of the joined rows that a way keeps, in order, or None if there is an error."""
    lot, plan = way
    if folds_err(planner, condition):
        return None
    sides = {address: left for address, _, left in _singles(join, condition)}
    passed = []
    for left, rows in zip((True, False), contents):
        beneath = [address for address in lot if sides[address] == left]
        passed.append(_let_through(planner, condition, plan, beneath, rows))
    if None in passed:
        return None
    behind = [address for address, _ in _tops(condition) if address not in lot]
    return _let_through(planner, condition, plan, behind, join.rows(tuple(passed)))


def _cells_by_value(table, name, condition):
    """The dict from the first values of the cells of a column by the tests of a condition to the cells."""
    column = table[name]
    return {value_for(cell): cell for cell in cells_of(column, tests_by_column(table, [condition])[column])}


def _common_values(join, condition):
    """The dict from tuples of the first values of two cells to the first value that joins in both, or None."""
    lefts = _cells_by_value(join.left, join.one, condition)
    rights = _cells_by_value(join.right, join.other, condition)
    found = {}
    for one, cell in lefts.items():
        for other, more in rights.items():
            _, words, spans = met(cell, more)
            found[(one, other)] = value_for((False, words, spans)) if words or len(spans) > 0 else None
    return found


def pair_rows(join, condition):
    """The list of one joined row for each lot of alike ones, in order."""
    common, rights = _common_values(join, condition), class_rows(join.right, [condition])
    found = []
    for row in class_rows(join.left, [condition]):
        for more in rights:
            value = common[(row[join.one], more[join.other])]
            if value is not None:
                found.append(joined_row({**row, join.one: value}, {**more, join.other: value}))
    return found


def lone_rows(join, condition):
    """The tuple of the lists of the rows of the classes on the left, with a pair where it has to be, and right."""
    lefts, rights = class_rows(join.left, [condition]), class_rows(join.right, [condition])
    if not join.partner:
        return (lefts, rights)
    common = _common_values(join, condition)
    values = {row[join.other]: True for row in rights}
    joining = [one for one, other in common if other in values and common[(one, other)] is not None]
    return ([row for row in lefts if row[join.one] in joining], rights)


def _first_erring(planner, condition, rows):
    """A list of the first row at which some plan errs, perhaps empty."""
    words = root_words(planner, condition, rows)
    return [row for row, word in zip(rows, words) if word[1]][:1]


def _plan_within(planner, condition, address, part, row):
    """A plan of the whole by which the top part at an address errs at a row."""
    plan = text_plan(condition)
    for below, order in plan_for(planner, part, row, "error").items():
        plan[address + below] = order
    return plan


def _beneath_paper(planner, join, condition, pairs):
    """What join_paper returns, of a row that is asked a single top part beneath the join."""
    for address, part, left in _singles(join, condition):
        if left and join.partner:
            rows = _first_erring(planner, part, pairs)
            contents = [([_row_of(join.left, row)], [_row_of(join.right, row)]) for row in rows]
        elif left:
            rows = _first_erring(planner, part, class_rows(join.left, [part]))
            contents = [([row], []) for row in rows]
        else:
            rows = _first_erring(planner, part, class_rows(join.right, [part]))
            contents = [([], [row]) for row in rows]
        if len(rows) > 0:
            return (contents[0], ([address], _plan_within(planner, condition, address, part, rows[0])))
    return None


def join_paper(planner, join, condition):
    """A tuple (contents, way) of at most one row of each Table and a way that errs there, or None."""
    if folds_err(planner, condition):
        return (([], []), ([], text_plan(condition)))
    # What errs behind the join with parts beneath it errs with all parts behind it, too.
    pairs = pair_rows(join, condition)
    erring = _first_erring(planner, condition, pairs)
    if len(erring) > 0:
        contents = ([_row_of(join.left, erring[0])], [_row_of(join.right, erring[0])])
        return (contents, ([], plan_for(planner, condition, erring[0], "error")))
    return _beneath_paper(planner, join, condition, pairs) if planner.beneath else None


def join_can_err(planner, join, condition):
    """Whether some way that a Planner may choose errs at some contents of the join."""
    return join_paper(planner, join, condition) is not None


def _is_way(planner, join, condition, thing):
    """Whether thing is a way that a Planner may choose."""
    if not isinstance(thing, tuple) or len(thing) != 2 or not isinstance(thing[0], list):
        return False
    lot, plan = thing
    if not all([is_address(address) for address in lot]) or not is_plan_by(planner, condition, plan):
        return False
    singles = [address for address, _, _ in _singles(join, condition)] if planner.beneath else []
    return lot == [address for address in singles if address in lot]


def is_join_paper(planner, join, condition, thing):
    """Whether thing is a tuple (contents, way) of contents of the join and a way that errs there."""
    if not isinstance(thing, tuple) or len(thing) != 2:
        return False
    contents, way = thing
    if not join.holds(contents) or not _is_way(planner, join, condition, way):
        return False
    return run_join(planner, join, condition, way, contents) is None
