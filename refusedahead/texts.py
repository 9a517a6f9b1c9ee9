"""Conditions, their parts and the addresses of these."""

from refusedahead.asks import ANSWERS, OPPOSITES, column_of, is_test
from refusedahead.errors import NoPart
from refusedahead.values import is_integer

TESTS = ("asks", "empty", "number")
LEAVES = ("always", "asks", "empty", "number")
NODES = ("all", "any")
DECIDES = {"all": "no", "any": "yes"}
LISTS = ("all", "any", "first")
LISTS_TURNED = {"all": "any", "any": "all", "first": "first"}


def _are_conditions(thing):
    """Whether thing is a tuple of conditions."""
    return isinstance(thing, tuple) and all([is_condition(part) for part in thing])


def _are_pairs(thing):
    """Whether thing is a tuple of tuples (when, then)."""
    if not isinstance(thing, tuple):
        return False
    return all([_are_conditions(pair) and len(pair) == 2 for pair in thing])


def is_condition(thing):
    """Whether thing is a condition."""
    if not isinstance(thing, tuple) or len(thing) < 2 or not isinstance(thing[0], str):
        return False
    kind = thing[0]
    if kind in TESTS:
        return is_test(thing)
    if kind == "case":
        return len(thing) == 3 and _are_pairs(thing[1]) and is_condition(thing[2])
    if len(thing) != 2:
        return False
    if kind == "always":
        return isinstance(thing[1], str) and thing[1] in ANSWERS
    if kind == "not":
        return is_condition(thing[1])
    return kind in LISTS and _are_conditions(thing[1])


def parts(condition):
    """The list of the parts of a condition, in order."""
    kind = condition[0]
    if kind in LISTS:
        return list(condition[1])
    if kind == "not":
        return [condition[1]]
    if kind == "case":
        return [part for pair in condition[1] for part in pair] + [condition[2]]
    return []


def with_parts(condition, others):
    """A condition that has parts, with as many others in their places."""
    kind = condition[0]
    if kind == "not":
        return (kind, others[0])
    if kind == "case":
        return (kind, tuple(zip(others[:-1:2], others[1::2])), others[-1])
    return (kind, tuple(others))


def _is_when(condition, index):
    """Whether the part of a case with this index is a when."""
    return index % 2 == 0 and index < 2 * len(condition[1])


def plain_parts(condition, plain):
    """For each part whether its place is plain, plain telling it of the condition."""
    below = parts(condition)
    if condition[0] == "case":
        return [plain or _is_when(condition, index) for index in range(len(below))]
    return [plain and condition[0] in NODES] * len(below)


def places(condition, plain=True):
    """The list of the tuples (address, part, whether the place is plain), ascending."""
    found = [((), condition, plain)]
    for index, (part, truth) in enumerate(zip(parts(condition), plain_parts(condition, plain))):
        found.extend([((index,) + address, other, here) for address, other, here in places(part, truth)])
    return found


def addresses(condition):
    """The ascending list of all addresses in a condition."""
    return [address for address, _, _ in places(condition)]


def nodes(condition):
    """The ascending list of the addresses of the alls and anys."""
    return [address for address, part, _ in places(condition) if part[0] in NODES]


def leaves(condition):
    """The ascending list of the addresses of the tests and alwayses."""
    return [address for address, part, _ in places(condition) if part[0] in LEAVES]


def all_tests(condition):
    """The list of the tests in a condition, perhaps some several times, in no order."""
    found, waiting = [], [condition]
    while len(waiting) > 0:
        part = waiting.pop()
        if part[0] in TESTS:
            found.append(part)
        elif part[0] in LISTS:
            waiting.extend(part[1])
        else:
            waiting.extend(parts(part))
    return found


def tests_in(condition):
    """The ascending list of the different tests in a condition."""
    return sorted(set(all_tests(condition)))


def columns_in(condition):
    """The ascending list of the names of the columns that a condition asks."""
    return sorted({column_of(test) for test in tests_in(condition)})


def depth(condition):
    """The greatest length of an address in a condition."""
    return max([len(address) for address in addresses(condition)])


def part_at(condition, address):
    """The part at an address; raises NoPart for what is none."""
    if not isinstance(address, tuple):
        raise NoPart(address)
    found = condition
    for index in address:
        below = parts(found)
        if not is_integer(index) or not 0 <= index < len(below):
            raise NoPart(address)
        found = below[index]
    return found


def _put(condition, address, other):
    """The condition with other at an address that it has."""
    if len(address) == 0:
        return other
    below = parts(condition)
    below[address[0]] = _put(below[address[0]], address[1:], other)
    return with_parts(condition, below)


def put_at(condition, address, other):
    """The condition with other at an address; raises NoPart for what is none."""
    part_at(condition, address)
    return _put(condition, address, other)


def is_plain_at(condition, address):
    """Whether the place at an address is plain; raises NoPart for what is none."""
    part_at(condition, address)
    plain, part = True, condition
    for index in address:
        plain, part = plain_parts(part, plain)[index], parts(part)[index]
    return plain


def _turned_case(condition):
    """A case with its thens and its else turned."""
    pairs = [(when, turned(then)) for when, then in condition[1]]
    return ("case", tuple(pairs), turned(condition[2]))


def turned(condition):
    """The condition that answers no for yes, yes for no, and all else alike."""
    kind = condition[0]
    if kind in TESTS:
        return ("not", condition)
    if kind == "always":
        return (kind, OPPOSITES[condition[1]])
    if kind == "not":
        return condition[1]
    if kind == "case":
        return _turned_case(condition)
    return (LISTS_TURNED[kind], tuple([turned(part) for part in condition[1]]))
