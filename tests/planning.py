"""Plans and planners for the tests, gone through one by one, told once more by itself."""

import itertools

from refusedahead.planners import Planner
from tests.makers import SWAPPED, Ended
from tests.test_asks import right_answer

MODES = ("every", "free", "text")
LEAVES = ("always", "asks", "empty", "number")
WORDS = ("no", "unknown", "yes", "error")

# A leaf that answers as the value of its column says: no, yes, unknown, and error at any other.
SAYS = {"no": 0, "yes": 1, "unknown": None, "error": 2}


def right_planners():
    """All Planners, the last truth changing fastest."""
    return [Planner(mode, unknown=unknown, folds=folds, beneath=beneath, early=early)
            for mode in MODES for unknown, folds, beneath, early in itertools.product((False, True), repeat=4)]


def plain_planners():
    """The Planners without the truths that matter to joins and terms alone."""
    return [planner for planner in right_planners() if not planner.beneath and not planner.early]


def below(condition):
    """The parts of a condition, in order."""
    kind = condition[0]
    if kind in LEAVES:
        return []
    if kind == "not":
        return [condition[1]]
    if kind == "case":
        return [part for pair in condition[1] for part in pair] + [condition[2]]
    return list(condition[1])


def all_places(condition, address=()):
    """The list of all tuples (address, part), ascending."""
    found = [(address, condition)]
    for index, part in enumerate(below(condition)):
        found += all_places(part, address + (index,))
    return found


def right_plain(condition, address):
    """Whether a place is plain, told by the places on the way to it."""
    if address == ():
        return True
    above = dict(all_places(condition))[address[:-1]]
    if above[0] == "case" and address[-1] % 2 == 0 and address[-1] < 2 * len(above[1]):
        return True
    return above[0] in ("all", "any", "case") and right_plain(condition, address[:-1])


def right_plans(condition):
    """All plans, in the order of the lists of their orders."""
    nodes = [(address, part) for address, part in all_places(condition) if part[0] in ("all", "any")]
    lists = [[list(order) for order in itertools.permutations(range(len(part[1])))] for _, part in nodes]
    return [{address: list(order) for (address, _), order in zip(nodes, orders)}
            for orders in itertools.product(*lists)]


def right_count(condition):
    """How many plans there are."""
    found = 1
    for _, part in all_places(condition):
        if part[0] in ("all", "any"):
            found *= [1, 1, 2, 6, 24, 120, 720][len(part[1])]
    return found


def chosen(planner, condition):
    """The plans that a planner may choose."""
    return right_plans(condition) if planner.mode == "free" else right_plans(condition)[:1]


class Way:
    """How a condition is asked at a row."""

    def __init__(self, planner, whole, plan, row):
        self.planner, self.whole, self.plan, self.row, self.trail = planner, whole, plan, row, []

    def ask(self, condition, address):
        """What the part at an address answers there; an error ends all by an exception."""
        said = self.own(condition, address)
        if said == "unknown" and self.planner.unknown and right_plain(self.whole, address):
            return "no"
        return said

    def own(self, condition, address):
        kind = condition[0]
        if kind in LEAVES:
            said = condition[1] if kind == "always" else right_answer(condition, self.row[condition[1]])
            self.trail.append((address, said))
            if said == "error":
                raise Ended
            return said
        parts = below(condition)
        if kind == "not":
            return SWAPPED[self.ask(parts[0], address + (0,))]
        if kind == "case":
            at = 0
            while at + 1 < len(parts):
                if self.ask(parts[at], address + (at,)) == "yes":
                    return self.ask(parts[at + 1], address + (at + 1,))
                at += 2
            return self.ask(parts[at], address + (at,))
        if kind == "first":
            for at, part in enumerate(parts):
                said = self.ask(part, address + (at,))
                if said != "unknown":
                    return said
            return "unknown"
        return self.node(condition, address)

    def node(self, condition, address):
        decisive = {"all": "no", "any": "yes"}[condition[0]]
        every = self.planner.mode == "every"
        order = range(len(condition[1])) if every else self.plan[address]
        found = set()
        for at in order:
            found.add(self.ask(condition[1][at], address + (at,)))
            if decisive in found and not every:
                return decisive
        for word in (decisive, "unknown"):
            if word in found:
                return word
        return SWAPPED[decisive]


def right_asked_by(planner, condition, plan, row, address=()):
    """The answer of the part at an address by a plan, without FOLDS, and the leaves asked."""
    way = Way(planner, condition, plan, row)
    try:
        return way.ask(dict(all_places(condition))[address], address), way.trail
    except Ended:
        return "error", way.trail


def folded(planner, condition):
    return planner.folds and ("always", "error") in [part for _, part in all_places(condition)]


def right_run(planner, condition, plan, row):
    if folded(planner, condition):
        return "error"
    return right_asked_by(planner, condition, plan, row)[0]


def right_kept_by(planner, condition, plan, rows):
    said = [right_run(planner, condition, plan, row) for row in rows]
    if folded(planner, condition) or "error" in said:
        return None
    return [index for index, word in enumerate(said) if word == "yes"]


def joined(said):
    """The word that stands for some answers."""
    values = {word for word in said if word != "error"}
    assert len(values) <= 1
    return (values.pop() if values else None, "error" in said)


def leaf(name):
    """A test that answers as SAYS tells of the value of its column."""
    return ("asks", name, (("found", ((0, 0), (1, 1))),), "=", 1)


class Frame:
    """A condition at random whose leaves ask a column each, or always answer the same."""

    def __init__(self, source, levels, kinds=("all", "any", "all", "any", "not", "case", "first"), always=0.1):
        self.source, self.kinds, self.always, self.names = source, kinds, always, []
        self.condition = self.make(levels, True)

    def leaf(self):
        if self.source.random() < self.always:
            return ("always", self.source.choice(WORDS))
        self.names.append("abcdefghijklmnopqrstuvwxyz"[len(self.names) % 26])
        return leaf(self.names[-1])

    def make(self, levels, root=False):
        if levels == 0 or not root and self.source.random() < 0.35:
            return self.leaf()
        kind = self.source.choice(self.kinds)
        many = self.source.choice((0, 1, 2, 2, 3))
        if kind == "not":
            return (kind, self.make(levels - 1))
        if kind == "case":
            pairs = tuple([(self.make(levels - 1), self.make(levels - 1)) for _ in range(many % 3)])
            return (kind, pairs, self.make(levels - 1))
        return (kind, tuple([self.make(levels - 1) for _ in range(many)]))

    def row(self, weights=(3, 2, 3, 2)):
        """A row at which the leaves answer at random: no, unknown, yes, error."""
        return {name: SAYS[self.source.choices(WORDS, weights)[0]] for name in self.names}

    def rows(self, most, weights=(3, 2, 3, 2)):
        found = [self.row(weights) for _ in range(self.source.randrange(most + 1))]
        return found + [dict(row) for row in found[:self.source.randrange(2)]]


def make_frame(source, levels, most_plans, most_leaves=12, **more):
    """A Frame with no more plans and leaves than these."""
    while True:
        found = Frame(source, levels, **more)
        places = all_places(found.condition)
        narrow = max([len(part[1]) for _, part in places if part[0] in ("all", "any")], default=0) <= 6
        leaves = [part for _, part in places if part[0] in LEAVES]
        if narrow and len(leaves) <= most_leaves and right_count(found.condition) <= most_plans:
            return found


def make_node(source, levels, most_plans, **more):
    """A Frame whose condition is an all or any."""
    while True:
        found = make_frame(source, levels, most_plans, **more)
        if found.condition[0] in ("all", "any"):
            return found


def safe_for(planner, condition, plan, rows):
    return right_kept_by(planner, condition, plan, rows) is not None


def safe_plans(planner, condition, rows):
    """All plans that the planner may choose and that err at none of the rows."""
    return [plan for plan in chosen(planner, condition) if safe_for(planner, condition, plan, rows)]


def big_conditions():
    """Conditions of twelve leaves, up to eight deep, with far more plans than can be gone through."""
    names = "abcdefghijkl"
    leaves = [leaf(name) for name in names]
    wide = ("any", (("all", tuple(leaves[:6])), ("all", tuple(leaves[6:]))))
    flat = ("all", tuple([("any", (leaves[index], leaves[index + 6])) for index in range(6)]))
    chain = leaves[11]
    for index in range(7, -1, -1):
        extra = (leaves[index], leaves[index + 8]) if index < 3 else (leaves[index],)
        chain = (("all", "any")[index % 2], extra + (chain,))
    mixed = ("all", (
        ("case", ((("any", tuple(leaves[:3])), ("all", tuple(leaves[3:6]))),), ("not", ("all", tuple(leaves[6:8])))),
        ("first", (("any", (leaves[8], leaves[9])), ("not", ("any", (leaves[10], leaves[11])))))))
    return [wide, flat, chain, mixed]


def all_said(planner, condition, rows):
    """The list of the tuples (plan, answers at the rows) of all plans that the planner may choose."""
    return [(plan, [right_run(planner, condition, plan, row) for row in rows]) for plan in chosen(planner, condition)]


def right_value(planner, condition, row, address):
    """The value of the part at an address at a row, by going through all plans."""
    said = {right_asked_by(planner, condition, plan, row, address)[0] for plan in right_plans(condition)}
    return joined(said)[0]


class FlatFrame(Frame):
    """A Frame of an all or any whose parts hold no all and no any."""

    def make(self, levels, root=False):
        if root:
            many = self.source.choice((1, 2, 2, 3, 3, 3, 4))
            return (self.source.choice(("all", "any")), tuple([self.make(1) for _ in range(many)]))
        kind = self.source.choice(("leaf",) * 7 + ("not", "first", "case"))
        if kind == "leaf" or levels == 0:
            return self.leaf()
        if kind == "not":
            return (kind, self.leaf())
        if kind == "first":
            return (kind, (self.leaf(), self.leaf()))
        return (kind, ((self.leaf(), self.leaf()),), self.leaf())

    def mild_rows(self, most):
        """Rows at which few leaves err, and some answers decide."""
        weights = (4, 1, 2, 3) if self.condition[0] == "all" else (2, 1, 4, 3)
        found = [row for row in self.rows(3 * most, weights) if list(row.values()).count(SAYS["error"]) <= 2]
        return found[:most]


def make_flat(source, always=0):
    """A FlatFrame of at most four parts."""
    return FlatFrame(source, 2, always=always)
