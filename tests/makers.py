"""Conditions for the tests, and what they answer, told once more by itself."""

from tests.test_asks import SIGNS, right_answer
from tests.test_steps import SOME_STEPS

ANSWERS = ("error", "no", "unknown", "yes")
SWAPPED = {"yes": "no", "no": "yes", "unknown": "unknown", "error": "error"}


def always(word):
    return ("always", word)


def make_test(source, names):
    """A test of one of the columns."""
    name = source.choice(names)
    if source.random() < 0.25:
        return (source.choice(("empty", "number")), name)
    steps = tuple(source.choices(SOME_STEPS, k=source.choice((0, 0, 1, 1, 2))))
    return ("asks", name, steps, source.choice(SIGNS), source.randrange(-4, 5))


def make_condition(source, names, levels):
    """A condition at most so many levels deep, perhaps without parts."""
    kind = source.choice(("all", "any", "not", "case", "first", "test", "test", "always"))
    if kind == "always":
        return always(source.choice(ANSWERS))
    if kind == "test" or levels == 0:
        return make_test(source, names)
    below = [make_condition(source, names, levels - 1) for _ in range(source.randrange(4))]
    if kind == "not":
        return ("not", make_condition(source, names, levels - 1))
    if kind == "case":
        pairs = tuple([(one, make_condition(source, names, levels - 1)) for one in below[:2]])
        return ("case", pairs, make_condition(source, names, levels - 1))
    return (kind, tuple(below))


class Ended(Exception):
    """A leaf has answered error."""


def ask_on(condition, row, address, trail):
    """What a condition answers; an error ends all by an exception."""
    kind = condition[0]
    if kind in ("empty", "number", "asks", "always"):
        said = condition[1] if kind == "always" else right_answer(condition, row[condition[1]])
        trail.append((address, said))
        if said == "error":
            raise Ended
        return said
    if kind == "not":
        return SWAPPED[ask_on(condition[1], row, address + (0,), trail)]
    if kind == "case":
        at = 0
        for when, then in condition[1]:
            if ask_on(when, row, address + (at,), trail) == "yes":
                return ask_on(then, row, address + (at + 1,), trail)
            at += 2
        return ask_on(condition[2], row, address + (at,), trail)
    found = []
    for at, part in enumerate(condition[1]):
        found.append(ask_on(part, row, address + (at,), trail))
        if found[-1] == {"all": "no", "any": "yes"}.get(kind) or kind == "first" and found[-1] != "unknown":
            return found[-1]
    if kind == "first" or "unknown" in found:
        return "unknown"
    return "yes" if kind == "all" else "no"


def right_asked(condition, row):
    """The answer of a condition at a row, and the leaves that are asked."""
    trail = []
    try:
        return ask_on(condition, row, (), trail), trail
    except Ended:
        return "error", trail
