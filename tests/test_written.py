"""Point [72]: conditions written by a plan, and with guards."""

import itertools
import random
import unittest

from refusedahead.contents import judged
from refusedahead.errors import Ring
from refusedahead.guards import is_guarded, leading
from refusedahead.orders import is_safe_order
from refusedahead.planners import Planner
from refusedahead.texts import is_condition
from refusedahead.written import laid, with_guards
from tests.planning import leaf, make_flat, make_frame, right_plans, right_run

FREE, TEXT = Planner("free"), Planner("text")
NO, YES = ("always", "no"), ("always", "yes")
A, B, C, D = [leaf(name) for name in "abcd"]


def right_leaders(guards, part):
    """The parts from which guards lead to a part, by walking on until nothing comes."""
    found = set()
    while True:
        more = {one for one, other in guards if other == part or other in found}
        if more <= found:
            return found
        found |= more


def right_order(guards, parts):
    """The least order of some parts that keeps the guards, by going through all orders."""
    for order in itertools.permutations(sorted(parts)):
        if all(order.index(one) < order.index(other) for one, other in guards if one in parts and other in parts):
            return order


def right_with_guards(condition, guards):
    """The condition with its guards, or the part of the Ring."""
    kind, below = condition
    for part in range(len(below)):
        if part in right_leaders(guards, part):
            return part
    found = []
    for index, part in enumerate(below):
        ahead = [below[other] for other in right_order(guards, right_leaders(guards, index))]
        pairs = tuple((("not", one), NO) if kind == "all" else (one, YES) for one in ahead)
        found.append(("case", pairs, part) if ahead else part)
    return (kind, tuple(found))


class LaidTest(unittest.TestCase):

    def test_what_is_laid_is_asked_by_the_plan(self):
        source, kinds = random.Random(201), set()
        for _ in range(150):
            frame = make_frame(source, 3, 24)
            kinds.add(frame.condition[0])
            for plan in right_plans(frame.condition):
                for _ in range(2):
                    found = laid(frame.condition, plan)
                    self.assertIs(is_condition(found), True)
                for row in frame.rows(4):
                    for unknown in (False, True):
                        free, text = Planner("free", unknown=unknown), Planner("text", unknown=unknown)
                        self.assertEqual(right_run(text, found, right_plans(found)[0], row),
                                         right_run(free, frame.condition, plan, row))
        self.assertEqual(len(kinds), 5)

    def test_as_it_stands_there(self):
        inner = ("any", (A, ("not", B), C))
        condition = ("all", (inner, ("case", ((("all", (C, D)), inner),), D), ("first", (inner, A)), ("all", ())))
        plan = {(): [3, 1, 0, 2], (0,): [2, 0, 1], (1, 0): [1, 0], (1, 1): [0, 2, 1], (2, 0): [1, 2, 0], (3,): []}
        self.assertEqual(laid(condition, plan), ("all", (
            ("all", ()), ("case", ((("all", (D, C)), ("any", (A, C, ("not", B)))),), D),
            ("any", (C, A, ("not", B))), ("first", (("any", (("not", B), C, A)), A)))))

    def test_conditions_without_nodes(self):
        for condition in (A, ("empty", "a"), NO, ("not", A), ("first", ()), ("first", (A, B)), ("case", (), A),
                          ("case", ((A, B), (C, D)), ("not", A))):
            self.assertEqual(laid(condition, {}), condition)

    def test_the_order_of_the_keys_means_nothing(self):
        condition = ("any", (("all", (A, B)), C))
        one, other = {(): [1, 0], (0,): [1, 0]}, {(0,): [1, 0], (): [1, 0]}
        self.assertEqual(laid(condition, one), ("any", (C, ("all", (B, A)))))
        self.assertEqual(laid(condition, other), laid(condition, one))
        self.assertEqual([one, other], [{(): [1, 0], (0,): [1, 0]}] * 2)


class WithGuardsTest(unittest.TestCase):

    def check(self, condition, guards):
        kept = list(guards)
        right = right_with_guards(condition, guards)
        for _ in range(2):
            if isinstance(right, int):
                with self.assertRaises(Ring) as caught:
                    with_guards(condition, guards)
                self.assertEqual(caught.exception.part, right)
            else:
                self.assertEqual(with_guards(condition, guards), right, (condition, guards))
        self.assertEqual(guards, kept)
        return right

    def test_up_to_six_parts(self):
        source, rings = random.Random(202), 0
        for _ in range(400):
            many = source.randrange(7)
            condition = (source.choice(("all", "any")), tuple([leaf(name) for name in "abcdef"[:many]]))
            pairs = [(one, other) for one in range(many) for other in range(many) if one != other]
            rank = source.sample(range(many), many)
            if source.random() < 0.7:
                pairs = [(one, other) for one, other in pairs if rank[one] < rank[other]]
            rings += isinstance(self.check(condition, source.sample(pairs, min(len(pairs), source.randrange(8)))), int)
        self.assertGreater(rings, 20)

    def test_as_it_stands_there(self):
        self.assertEqual(with_guards(("all", (A, B)), []), ("all", (A, B)))
        self.assertEqual(with_guards(("any", ()), []), ("any", ()))
        self.assertEqual(with_guards(("all", (A, B, C, D)), [(3, 1), (1, 0)]), ("all", (
            ("case", ((("not", D), NO), (("not", B), NO)), A), ("case", ((("not", D), NO),), B), C, D)))
        self.assertEqual(with_guards(("any", (A, B, C, D)), [(3, 1), (2, 0), (1, 0)]), ("any", (
            ("case", ((C, YES), (D, YES), (B, YES)), A), ("case", ((D, YES),), B), C, D)))

    def test_rings(self):
        condition = ("all", (A, B, C, D))
        for guards, part in (([(2, 1), (1, 2)], 1), ([(3, 2), (2, 3), (0, 1)], 2), ([(0, 1), (1, 2), (2, 0)], 0),
                             ([(3, 1), (1, 3), (1, 0)], 1)):
            self.assertEqual(self.check(condition, guards), part)

    def test_sure_just_where_it_is_guarded(self):
        source, seen = random.Random(203), {True: 0, False: 0}
        for _ in range(500):
            frame = make_flat(source, 0.1)
            many = len(frame.condition[1])
            pairs = [(one, other) for one in range(many) for other in range(many) if one != other]
            guards = source.sample(pairs, min(len(pairs), source.randrange(4)))
            if isinstance(right_with_guards(frame.condition, guards), int):
                continue
            rows, found = frame.mild_rows(3), with_guards(frame.condition, guards)
            guarded = is_guarded(FREE, frame.condition, rows, guards)
            self.assertIs(judged(FREE, found, rows) == "sure", guarded, (frame.condition, guards, rows))
            seen[guarded] += 1
            for row in rows:
                self.check_answers(frame.condition, found, row)
        self.assertGreater(min(seen.values()), 80)

    def check_answers(self, condition, found, row):
        """The same answers where both answer, by all plans of both."""
        if len(right_plans(found)) > 24:
            return
        said = [{right_run(FREE, one, plan, row) for plan in right_plans(one)} - {"error"}
                for one in (condition, found)]
        if said[0] and said[1]:
            self.assertEqual(said[0], said[1], (condition, found, row))

    def test_orders_that_keep_the_guards(self):
        source = random.Random(204)
        for _ in range(200):
            frame = make_flat(source)
            many, rows = len(frame.condition[1]), frame.mild_rows(2)
            guards = [(one, other) for one in range(many) for other in range(one) if source.random() < 0.4]
            orders = [order for order in itertools.permutations(range(many))
                      if all(order.index(one) < order.index(other) for one, other in guards)]
            safe = all(is_safe_order(FREE, frame.condition, [row], list(order)) for order in orders for row in rows)
            self.assertIs(judged(FREE, with_guards(frame.condition, guards), rows) == "sure", safe)

    def test_leading_agrees(self):
        condition, guards = ("any", (A, B, C, D)), [(3, 1), (1, 0), (2, 0)]
        self.assertEqual([leading(condition, guards, part) for part in range(4)], [[1, 2, 3], [3], [], []])


if __name__ == "__main__":
    unittest.main()
