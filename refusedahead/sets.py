"""Lots of rows for which some plan is safe, and the fewest rows for which none is.

A lot of rows or of parts is an integer here, whose bit with the number of a row or part is set.
"""

from refusedahead.errs import root_words
from refusedahead.plans import folds_err
from refusedahead.safe import Places
from refusedahead.texts import LEAVES, NODES


def _lot_of(indexes):
    """The lot of different indexes."""
    return sum([1 << index for index in indexes])


def _indexes_in(lot):
    """The ascending list of the indexes in a lot."""
    return [index for index in range(lot.bit_length()) if (lot >> index) & 1 == 1]


def _greatest(lots):
    """Those of the lots that are within no other one."""
    different = sorted(set(lots))
    return [lot for lot in different if not any([lot & other == lot and lot != other for other in different])]


def _node_lots(found, address):
    """The greatest lots of rows for which some plan of an all or any is safe."""
    below = [_safe_lots(found, place) for place in found.below(address)]
    every, whole = _lot_of(found.everyone), (1 << len(below)) - 1
    # By each lot of parts that are taken first: the greatest lots of rows that are safe up to there.
    lots = {0: [every]}
    for taken in range(whole):
        closed = every - _lot_of(found.still_open(address, found.everyone, _indexes_in(taken)))
        reached = _greatest(lots[taken])
        for part in _indexes_in(whole - taken):
            longer = lots.setdefault(taken | (1 << part), [])
            longer.extend([lot & (closed | safe) for lot in reached for safe in below[part]])
    return _greatest(lots[whole])


def _safe_lots(found, address):
    """The greatest lots of rows for which some plan of the part at an address is safe."""
    if found.kind(address) in LEAVES:
        return [_lot_of(found.having(address, found.everyone, ("no", "unknown", "yes")))]
    if found.kind(address) in NODES:
        return _node_lots(found, address)
    every = _lot_of(found.everyone)
    lots = [every]
    for place, rows in zip(found.below(address), found.comers(address, found.everyone)):
        away = every - _lot_of(rows)
        lots = _greatest([lot & (away | safe) for lot in lots for safe in _safe_lots(found, place)])
    return lots


def safe_sets(planner, condition, rows):
    """The ascending list of the greatest lots of rows, as tuples, for which some plan is safe."""
    if folds_err(planner, condition):
        return []
    if planner.mode != "free":
        words = root_words(planner, condition, rows)
        return [tuple([index for index, word in enumerate(words) if not word[1]])]
    lots = _safe_lots(Places(planner, condition, rows), ())
    return sorted([tuple(_indexes_in(lot)) for lot in lots])


def _fewest_over(lots, goal):
    """The fewest indexes of lots that together hold all of another lot, or None."""
    found = {0: []}
    for index, lot in enumerate(lots):
        for held, indexes in list(found.items()):
            more = (held | lot) & goal
            if more not in found or len(indexes) + 1 < len(found[more]):
                found[more] = indexes + [index]
    return found.get(goal)


def few_rows(planner, condition, rows):
    """An ascending list of the fewest rows at which each plan errs, or None if some plan is safe for all."""
    found = Places(planner, condition, rows)
    places = found.below(())
    erring = [_lot_of([part for part, place in enumerate(places) if found.value[place][row] is None])
              for row in found.everyone]
    best, whole = None, (1 << len(places)) - 1
    # Each plan errs just where behind some lot of the parts each other part errs at an open row.
    for taken in range(whole):
        left = found.still_open((), found.everyone, _indexes_in(taken))
        few = _fewest_over([erring[row] for row in left], whole - taken)
        if few is not None and (best is None or len(few) < len(best)):
            best = [left[index] for index in few]
    return best


def fewest_rows(planner, condition, rows):
    """The least number of rows at which each plan errs, or None if some plan is safe for all."""
    found = few_rows(planner, condition, rows)
    return None if found is None else len(found)
