"""Bars: what tells that each plan of mode free errs at some row."""

from refusedahead.plans import erring_alwayses, folds_err, is_address
from refusedahead.safe import Places
from refusedahead.texts import LEAVES, NODES
from refusedahead.values import is_integer


def bar_at(found, address, coming):
    """A bar of the place at an address and of the rows that come to it, or None."""
    if found.kind(address) in LEAVES:
        rows = found.having(address, coming, (None,))
        return ("leaf", address, rows[0]) if len(rows) > 0 else None
    if found.kind(address) in NODES:
        return _lot_bar(found, address, coming)
    # Up to the first part that is barred all parts ahead are safe, so they all have values.
    for index, rows in enumerate(found.comers(address, coming)):
        within = bar_at(found, address + (index,), rows)
        if within is not None:
            return ("part", address, index, within)
    return None


def _lot_bar(found, address, coming):
    """A bar of an all or an any and of the rows that come to it, or None."""
    lot = found.taken(address, coming, {})
    left = found.still_open(address, coming, lot)
    others = [index for index in range(len(found.below(address))) if index not in lot]
    bars = [(index, bar_at(found, address + (index,), left)) for index in others]
    return ("lot", address, tuple(bars)) if len(bars) > 0 else None


def bar(planner, condition, rows):
    """A bar of the whole and of all rows, or None if some plan is safe."""
    if folds_err(planner, condition):
        return ("folds", erring_alwayses(condition)[0])
    found = Places(planner, condition, rows)
    return bar_at(found, (), found.everyone)


def _are_bars(found, address, coming, thing):
    """Whether thing is a tuple of tuples (part, bar) that bar one another in an all or an any."""
    if not isinstance(thing, tuple) or len(thing) == 0:
        return False
    if not all([isinstance(pair, tuple) and len(pair) == 2 and is_integer(pair[0]) for pair in thing]):
        return False
    lot, every = [pair[0] for pair in thing], list(range(len(found.below(address))))
    if lot != [index for index in every if index in lot]:
        return False
    left = found.still_open(address, coming, [index for index in every if index not in lot])
    return all([_is_bar_at(found, address + (index,), left, within) for index, within in thing])


def _is_within(found, address, coming, index, thing):
    """Whether thing is a bar of the part with this index of a not, a case or a first."""
    comers = found.comers(address, coming)
    if not is_integer(index) or not 0 <= index < len(comers):
        return False
    return _is_bar_at(found, address + (index,), comers[index], thing)


def _is_bar_at(found, address, coming, thing):
    """Whether thing is a bar of the place at an address and of the rows that come to it."""
    if not isinstance(thing, tuple) or len(thing) < 3 or not isinstance(thing[0], str):
        return False
    if not is_address(thing[1]) or thing[1] != address:
        return False
    form = (thing[0], len(thing))
    if found.kind(address) in LEAVES:
        return form == ("leaf", 3) and is_integer(thing[2]) and thing[2] in found.having(address, coming, (None,))
    if found.kind(address) in NODES:
        return form == ("lot", 3) and _are_bars(found, address, coming, thing[2])
    return form == ("part", 4) and _is_within(found, address, coming, thing[2], thing[3])


def _is_folds_bar(planner, condition, thing):
    """Whether thing tells a leaf that errs ahead of all rows."""
    if not isinstance(thing, tuple) or len(thing) != 2 or not isinstance(thing[0], str):
        return False
    if thing[0] != "folds" or not planner.folds or not is_address(thing[1]):
        return False
    return thing[1] in erring_alwayses(condition)


def is_bar(planner, condition, rows, thing):
    """Whether thing is a bar of the whole and of all rows."""
    if _is_folds_bar(planner, condition, thing):
        return True
    found = Places(planner, condition, rows)
    return _is_bar_at(found, (), found.everyone, thing)


def _rows_in(bar):
    """The list of the rows in a bar, perhaps some several times."""
    if bar[0] == "folds":
        return []
    if bar[0] == "leaf":
        return [bar[2]]
    if bar[0] == "part":
        return _rows_in(bar[3])
    return [row for _, within in bar[2] for row in _rows_in(within)]


def rows_of(bar):
    """The ascending list of the different rows in a bar."""
    return sorted(set(_rows_in(bar)))
