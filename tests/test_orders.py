"""Point [70]: safe orders."""

import itertools
import random
import unittest

from refusedahead.orders import count_orders, first_order, forced, is_safe_order, safe_orders
from refusedahead.planners import Planner
from tests.makers import always
from tests.planning import SAYS, all_said, big_conditions, leaf, make_flat, make_node, right_planners
from tests.things import any_things

SOME, TENS = ("asks", "n", (), "<>", 0), ("asks", "n", (("over", 10),), ">", 3)
BOTH, ROWS = ("all", (TENS, SOME)), [{"n": 0}, {"n": 2}]
FREE = Planner("free")
FREES = [planner for planner in right_planners() if planner.mode == "free"]


def right_orders(planner, condition, rows):
    """The ascending list of all safe orders, by going through all plans; FOLDS means nothing."""
    found = {tuple(plan[()]) for plan, said in all_said(planner.with_truth("folds", False), condition, rows)
             if "error" not in said}
    return [list(order) for order in sorted(found)]


def right_forced(orders, many):
    if not orders:
        return None
    return [(one, other) for one in range(many) for other in range(many) if one != other
            and all(order.index(one) < order.index(other) for order in orders)]


class OrdersTest(unittest.TestCase):

    def check(self, planner, condition, rows):
        many, told = len(condition[1]), [dict(row) for row in rows]
        rights = right_orders(planner, condition, rows)
        pairs = right_forced(rights, many)
        for _ in range(2):
            found = safe_orders(planner, condition, rows)
            self.assertEqual(found, rights)
            self.assertEqual(count_orders(planner, condition, rows), len(rights))
            first = first_order(planner, condition, rows)
            self.assertEqual(first, rights[0] if rights else None)
            ahead = forced(planner, condition, rows)
            self.assertEqual(ahead, pairs)
            for order in found + ([first, ahead] if rights else []):
                order.append(9)
            found.clear()
            self.assertEqual(rows, told)
        orders = list(itertools.permutations(range(many)))
        for order in orders[::len(orders) // 24 + 1]:
            self.assertIs(is_safe_order(planner, condition, rows, list(order)), list(order) in rights)
        return len(rights), len(orders)

    def test_nodes(self):
        source, seen = random.Random(151), set()
        for _ in range(200):
            frame = make_node(source, 3, 24)
            rows = frame.rows(5, (4, 1, 4, 2))
            for planner in source.sample(FREES, 3):
                many, most = self.check(planner, frame.condition, rows)
                seen.add((many > 0, many == most))
        self.assertEqual(len(seen), 3)

    def test_flat_frames(self):
        source, seen = random.Random(152), set()
        for _ in range(200):
            frame = make_flat(source)
            seen.add(self.check(source.choice(FREES), frame.condition, frame.mild_rows(4))[0])
        self.assertGreater(len(seen), 8)

    def test_up_to_six_parts(self):
        source, seen = random.Random(153), set()
        for many in (5, 6, 6):
            names = "abcdef"[:many]
            condition = (source.choice(("all", "any")), tuple([leaf(name) for name in names]))
            decisive = SAYS["no"] if condition[0] == "all" else SAYS["yes"]
            rows = []
            for _ in range(3):
                row = {name: source.choice((0, 1, None)) for name in names}
                one, other = source.sample(names, 2)
                row[one], row[other] = SAYS["error"], decisive
                rows.append(row)
            seen.add(0 < self.check(FREE, condition, rows)[0] < 720)
        self.assertIn(True, seen)

    def test_chains(self):
        # At each row a part errs and the one behind it decides: one order alone is safe.
        for many in range(1, 7):
            condition = ("all", tuple([leaf(name) for name in "abcdef"[:many]]))
            rows = [{name: SAYS["yes"] for name in "abcdef"} for _ in range(many - 1)]
            for index, row in enumerate(rows):
                row["abcdef"[index]], row["abcdef"[index + 1]] = SAYS["error"], SAYS["no"]
            order = list(range(many))[::-1]
            self.assertEqual(safe_orders(FREE, condition, rows), [order])
            self.assertEqual([count_orders(FREE, condition, rows), first_order(FREE, condition, rows)], [1, order])
            self.assertEqual(forced(FREE, condition, rows),
                             [(one, other) for one in range(many) for other in range(one)])
            self.assertEqual(count_orders(FREE, condition, []), [1, 1, 2, 6, 24, 120, 720][many])
            self.assertEqual(len(safe_orders(FREE, condition, [])), [1, 1, 2, 6, 24, 120, 720][many])

    def test_no_rows(self):
        for kind in ("all", "any"):
            self.assertEqual(safe_orders(FREE, (kind, (SOME,) * 3), []),
                             [list(order) for order in itertools.permutations(range(3))])
            self.assertEqual([first_order(FREE, (kind, (SOME,) * 3), []), forced(FREE, (kind, (SOME,) * 3), [])],
                             [[0, 1, 2], []])

    def test_without_parts(self):
        for rows in ([], [{}, {}]):
            for kind in ("all", "any"):
                condition = (kind, ())
                self.assertEqual([safe_orders(FREE, condition, rows), count_orders(FREE, condition, rows),
                                  first_order(FREE, condition, rows), forced(FREE, condition, rows)], [[[]], 1, [], []])
                self.assertIs(is_safe_order(FREE, condition, rows, []), True)

    def test_no_safe_order(self):
        rows = [{"n": 0}]
        condition = ("any", (TENS, SOME))
        self.assertEqual([safe_orders(FREE, condition, rows), count_orders(FREE, condition, rows),
                          first_order(FREE, condition, rows), forced(FREE, condition, rows)], [[], 0, None, None])

    def test_folds_means_nothing(self):
        condition = ("any", (always("error"), leaf("a")))
        for planner in FREES:
            self.assertEqual(safe_orders(planner, condition, [{"a": SAYS["yes"]}]), [[1, 0]])
            self.assertEqual(count_orders(planner, condition, [{"a": SAYS["no"]}]), 0)
            self.assertEqual(forced(planner, condition, []), [])

    def test_any_value(self):
        right = [1, 0]
        self.assertIs(is_safe_order(FREE, BOTH, ROWS, right), True)
        for thing in any_things() + [[0, 1], (1, 0), [True, False], [1, False], [True, 0], [1], [0], [1, 0, 0], [1, 1],
                                     [1, 0, 2], [2, 1], ["1", "0"], "10", {1: 0, 0: 1}, {0, 1}, [[1], [0]], [1, None],
                                     [-1, 0], {(): [1, 0]}, [[1, 0]]]:
            self.assertIs(is_safe_order(FREE, BOTH, ROWS, thing), False)
            self.assertIs(is_safe_order(FREE, ("all", ()), ROWS, thing), isinstance(thing, list) and thing == [])

    def test_nodes_within_the_parts(self):
        inner = ("any", (leaf("a"), leaf("b")))
        condition = ("all", (("not", inner), leaf("c")))
        rows = [{"a": SAYS["error"], "b": SAYS["yes"], "c": SAYS["error"]}]
        self.assertEqual(safe_orders(FREE, condition, rows), [[0, 1]])
        rows.append({"a": SAYS["yes"], "b": SAYS["error"], "c": SAYS["no"]})
        self.assertEqual(safe_orders(FREE, condition, rows), [])
        rows[0]["c"] = SAYS["no"]
        self.assertEqual(safe_orders(FREE, condition, rows), [[1, 0]])

    def test_far_more_plans(self):
        row = {name: SAYS["yes"] for name in "abcdefghijkl"}
        self.assertEqual(count_orders(FREE, big_conditions()[1], [row]), 720)
        row["a"] = SAYS["error"]
        self.assertEqual(count_orders(FREE, big_conditions()[1], [row]), 720)
        row["g"] = SAYS["error"]
        self.assertEqual(count_orders(FREE, big_conditions()[1], [row]), 0)
        row["d"], row["j"] = SAYS["no"], SAYS["no"]
        self.assertEqual([count_orders(FREE, big_conditions()[1], [row]), forced(FREE, big_conditions()[1], [row])],
                         [360, [(3, 0)]])

    def test_rows_added_between(self):
        rows = [{"n": 2}]
        found = [(safe_orders(FREE, BOTH, rows), count_orders(FREE, BOTH, rows), first_order(FREE, BOTH, rows),
                  forced(FREE, BOTH, rows), is_safe_order(FREE, BOTH, rows, [0, 1]))]
        rows.append({"n": 0})
        found.append((safe_orders(FREE, BOTH, rows), count_orders(FREE, BOTH, rows), first_order(FREE, BOTH, rows),
                      forced(FREE, BOTH, rows), is_safe_order(FREE, BOTH, rows, [0, 1])))
        self.assertEqual(found, [([[0, 1], [1, 0]], 2, [0, 1], [], True), ([[1, 0]], 1, [1, 0], [(1, 0)], False)])


if __name__ == "__main__":
    unittest.main()
