"""Conditions asked at rows, in the order of the text."""

from refusedahead.asks import OPPOSITES, column_of, test_answer
from refusedahead.errors import NoRow


def _ask_leaf(condition, row):
    """What a test or an always answers at a row."""
    if condition[0] == "always":
        return condition[1]
    return test_answer(condition, row[column_of(condition)])


def _ask_node(condition, address, row, trail):
    """What an all or an any answers at a row."""
    decisive, found = ("no", "yes") if condition[0] == "all" else ("yes", "no")
    for index, part in enumerate(condition[1]):
        said = _ask(part, address + (index,), row, trail)
        if said in ("error", decisive):
            return said
        if said == "unknown":
            found = said
    return found


def _ask_case(condition, address, row, trail):
    """What a case answers at a row."""
    _, pairs, otherwise = condition
    for index, (when, then) in enumerate(pairs):
        said = _ask(when, address + (2 * index,), row, trail)
        if said == "error":
            return said
        if said == "yes":
            return _ask(then, address + (2 * index + 1,), row, trail)
    return _ask(otherwise, address + (2 * len(pairs),), row, trail)


def _ask_first(condition, address, row, trail):
    """What a first answers at a row."""
    for index, part in enumerate(condition[1]):
        said = _ask(part, address + (index,), row, trail)
        if said != "unknown":
            return said
    return "unknown"


def _ask(condition, address, row, trail):
    """What the part at an address answers; the leaves asked join the trail."""
    kind = condition[0]
    if kind in ("all", "any"):
        return _ask_node(condition, address, row, trail)
    if kind == "not":
        return OPPOSITES[_ask(condition[1], address + (0,), row, trail)]
    if kind == "case":
        return _ask_case(condition, address, row, trail)
    if kind == "first":
        return _ask_first(condition, address, row, trail)
    said = _ask_leaf(condition, row)
    trail.append((address, said))
    return said


def answer(condition, row):
    """What a condition answers at a row."""
    return _ask(condition, (), row, [])


def asked(condition, row):
    """The list of the tuples (address, answer) of the leaves that are asked."""
    trail = []
    _ask(condition, (), row, trail)
    return trail


def keeps(condition, row):
    """Whether a row is kept."""
    return answer(condition, row) == "yes"


def kept(condition, contents):
    """The ascending list of the indexes of the rows that are kept; raises NoRow if one errs."""
    said = [answer(condition, row) for row in contents]
    if "error" in said:
        raise NoRow(said.index("error"))
    return [index for index, word in enumerate(said) if word == "yes"]
