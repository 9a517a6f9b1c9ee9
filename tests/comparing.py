"""What conditions come to at contents for the tests, by going through all plans and contents."""

from refusedahead.tables import Table
from tests.planning import chosen, folded, leaf, make_frame, right_count, right_kept_by, right_run

def right_outcomes(planner, condition, rows):
    """The outcomes of all plans: the kept rows first, then errs."""
    kept = [right_kept_by(planner, condition, plan, rows) for plan in chosen(planner, condition)]
    lists = [one for one in kept if one is not None]
    assert all(one == lists[0] for one in lists)
    return lists[:1] + (["errs"] if None in kept else [])


class Masks:
    """For each plan the rows of a list at which it errs and those it keeps, as bits."""

    def __init__(self, planner, condition, rows):
        self.folded = folded(planner, condition)
        self.plans = []
        for plan in chosen(planner, condition):
            said = [right_run(planner, condition, plan, row) for row in rows]
            self.plans.append((bits(said, "error"), bits(said, "yes")))

    def outcomes(self, lot):
        """The outcomes at a lot of the rows, as a set of lots and errs."""
        if self.folded:
            return {"errs"}
        return {"errs" if failing & lot else kept & lot for failing, kept in self.plans}


def bits(said, word):
    return sum(1 << index for index, one in enumerate(said) if one == word)


def lots_to_try(ones, others, many):
    """Lots of rows among which is one at which two sides differ, if they differ anywhere."""
    every = (1 << many) - 1
    if many <= 9:
        return range(every + 1)
    # Of a lot for which a plan is safe the greatest one shows just what it shows.
    safe = [every & ~failing for side in (ones, others) for failing, _ in side.plans]
    return [0] + [1 << index for index in range(many)] + safe


def differing(ones, others, many):
    """Whether at some lot of the rows the two have unlike outcomes, and whether the others have one more."""
    lots = lots_to_try(ones, others, many)
    return (any(ones.outcomes(lot) != others.outcomes(lot) for lot in lots),
            any(not others.outcomes(lot) <= ones.outcomes(lot) for lot in lots))


def table_for(source, names, indexes=0):
    """A table whose columns hold what the leaves of a Frame answer by, perhaps with indexes."""
    columns = [(name, source.choice((0, 0, 0, 1)), source.choice((2, 2, 2, 1)), source.random() < 0.5, False)
               for name in names]
    return Table(columns, [leaf(source.choice(names)) for _ in range(indexes if names else 0)])


def make_pair(source, names, most_plans=24):
    """Two conditions on the same columns, often much alike."""
    while True:
        one, other = [make_one(source, names) for _ in range(2)]
        if source.random() < 0.8:
            other = varied(source, one, names)
        if max(right_count(one), right_count(other)) <= most_plans and max(leaves_in(one), leaves_in(other)) <= 8:
            return (one, other) if source.random() < 0.5 else (other, one)


def make_one(source, names):
    """A condition of at most six leaves, often an all or an any of a few."""
    if source.random() < 0.4:
        return renamed(source, make_frame(source, 2, 24, most_leaves=6).condition, names)
    below = [leaf(source.choice(names)) for _ in range(source.choice((2, 3, 3)))]
    below = [("not", part) if source.random() < 0.2 else part for part in below]
    found = (source.choice(("all", "any")), tuple(below))
    return ("any", (leaf(source.choice(names)), found)) if source.random() < 0.2 else found


def renamed(source, condition, names):
    """The condition with a column of these in the place of each."""
    if condition[0] == "asks":
        return (condition[0], source.choice(names)) + condition[2:]
    return spread(condition, lambda part: renamed(source, part, names))


def varied(source, condition, names):
    """The condition with its alls and anys in another order, in lots, told twice, guarded, or without a part."""
    found = spread(condition, lambda part: varied(source, part, names))
    if found[0] not in ("all", "any"):
        return found
    below = source.sample(found[1], len(found[1]))
    form = source.choice(("order", "lot", "lot", "case", "case", "guard", "guard", "guard", "lacking"))
    if form == "lot" and len(below) > 2:
        below = [(found[0], tuple(below[:2]))] + below[2:]
    if form == "lacking":
        below = below[1:]
    if form == "guard" and len(below) > 1:
        when, word = (("not", below[0]), "no") if found[0] == "all" else (below[0], "yes")
        below[1] = ("case", ((when, ("always", word)),), below[1])
    if form == "case":
        when = (source.choice(("empty", "number", "asks")), source.choice(names))
        when = when + ((), "=", 1) if when[0] == "asks" else when
        return ("case", ((when, found),), (found[0], tuple(below)))
    return (found[0], tuple(below))


def spread(condition, change):
    """The condition with each of its parts changed."""
    kind = condition[0]
    if kind in ("all", "any", "first"):
        return (kind, tuple([change(part) for part in condition[1]]))
    if kind == "not":
        return (kind, change(condition[1]))
    if kind == "case":
        return (kind, tuple([(change(when), change(then)) for when, then in condition[1]]), change(condition[2]))
    return condition


def leaves_in(condition):
    """How many leaves a condition has."""
    found = []
    spread(condition, lambda part: found.append(leaves_in(part)) or part)
    return sum(found) if condition[0] in ("all", "any", "first", "not", "case") else 1
