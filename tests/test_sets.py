"""Point [63]: lots of rows for which some plan is safe."""

import itertools
import random
import unittest

from refusedahead.planners import Planner
from refusedahead.safe import safe_plan
from refusedahead.sets import few_rows, fewest_rows, safe_sets
from tests.makers import always
from tests.planning import (
    SAYS, all_said, big_conditions, folded, leaf, make_flat, make_frame, plain_planners, right_count, right_planners)

SOME, TENS = ("asks", "n", (), "<>", 0), ("asks", "n", (("over", 10),), ">", 3)
BOTH, ROWS = ("all", (TENS, SOME)), [{"n": 0}, {"n": 2}]
FREE, TEXT, EVERY = Planner("free"), Planner("text"), Planner("every")
UNKNOWN = Planner("free", unknown=True)
RING = ("all", tuple([("asks", name, (("over", 1),), ">", 0) for name in "abc"]))
THREE = [{"a": 0, "b": 2, "c": 1}, {"a": 1, "b": 0, "c": 2}, {"a": 2, "b": 1, "c": 0}]


def right_sets(planner, condition, rows):
    """The greatest lots of rows for which some plan is safe, by going through all plans."""
    if folded(planner, condition):
        return []
    lots = {tuple([index for index, word in enumerate(said) if word != "error"])
            for _, said in all_said(planner, condition, rows)}
    return sorted([lot for lot in lots if not [other for other in lots if set(lot) < set(other)]])


def right_fewest(planner, condition, rows):
    """The least number of rows at which each plan errs, by going through all lots of rows and all orders."""
    every = {tuple([index for index, word in enumerate(said) if word == "error"])
             for _, said in all_said(planner, condition, rows)}
    for many in range(len(rows) + 1):
        for lot in itertools.combinations(range(len(rows)), many):
            if all(set(lot) & set(erring) for erring in every):
                return many
    return None


class SetsTest(unittest.TestCase):

    def check(self, planner, condition, rows):
        right, told = right_sets(planner, condition, rows), [dict(row) for row in rows]
        for _ in range(2):
            found = safe_sets(planner, condition, rows)
            self.assertEqual(found, right)
            self.assertEqual({type(lot) for lot in found}, {tuple} if found else set())
            self.assertEqual(rows, told)
            found.append(9)
        return len(right)

    def test_frames(self):
        source, sizes = random.Random(141), set()
        for _ in range(250):
            frame = make_frame(source, 3, 24)
            rows = frame.rows(8, source.choice(((4, 0, 4, 2), (3, 1, 3, 2))))
            for planner in plain_planners():
                sizes.add(self.check(planner, frame.condition, rows))
        self.assertLessEqual({0, 1, 2}, sizes)

    def test_flat_frames(self):
        source, sizes = random.Random(142), set()
        for _ in range(150):
            frame = make_flat(source)
            rows = frame.mild_rows(12)
            for planner in (FREE, UNKNOWN):
                sizes.add(self.check(planner, frame.condition, rows))
        self.assertGreater(len(sizes), 4)

    def test_many_plans(self):
        source, some = random.Random(143), 0
        while some < 4:
            frame = make_frame(source, 4, 720, always=0)
            if right_count(frame.condition) >= 96:
                rows = [row for row in frame.rows(12, (5, 1, 5, 2))][:12]
                some += self.check(FREE, frame.condition, rows) > 1

    def test_the_ring(self):
        self.assertEqual(safe_sets(FREE, RING, THREE), [(0, 1), (0, 2), (1, 2)])
        self.assertEqual(safe_sets(FREE, RING, THREE * 2), [(0, 1, 3, 4), (0, 2, 3, 5), (1, 2, 4, 5)])
        self.assertEqual(safe_sets(TEXT, RING, THREE), [(2,)])
        self.assertEqual(safe_sets(EVERY, RING, THREE), [()])

    def test_no_rows_and_no_safe_row(self):
        for planner in plain_planners():
            self.assertEqual(safe_sets(planner, BOTH, []), [()])
            self.assertEqual(safe_sets(planner, ("all", (TENS,)), [{"n": 0}, {"n": 0}]), [()])
            self.assertEqual(safe_sets(planner, ("all", ()), [{}, {}]), [(0, 1)])

    def test_folds(self):
        condition = ("all", (SOME, ("first", (always("yes"), always("error")))))
        for mode in ("every", "free", "text"):
            for rows in ([], [{"n": 0}], [{"n": 1}, {"n": 2}]):
                self.assertEqual(safe_sets(Planner(mode, folds=True), condition, rows), [])
            self.assertEqual(safe_sets(Planner(mode), condition, ROWS), [(0, 1)])

    def test_far_more_plans(self):
        source = random.Random(144)
        for condition in big_conditions():
            for planner in (FREE, UNKNOWN):
                rows = [{name: SAYS[source.choices(("no", "unknown", "yes", "error"), (4, 1, 5, 1))[0]]
                         for name in "abcdefghijkl"} for _ in range(7)]
                lots = [lot for many in range(8) for lot in itertools.combinations(range(7), many)
                        if safe_plan(planner, condition, [rows[index] for index in lot]) is not None]
                right = sorted([lot for lot in lots if not [other for other in lots if set(lot) < set(other)]])
                self.assertEqual(safe_sets(planner, condition, rows), right)

    def test_told_rows_changed_between(self):
        rows = [dict(row) for row in THREE]
        self.assertEqual(len(safe_sets(FREE, RING, rows)), 3)
        rows.pop()
        self.assertEqual(safe_sets(FREE, RING, rows), [(0, 1)])
        self.assertIsNone(few_rows(FREE, RING, rows))
        rows[0]["b"] = 0
        self.assertEqual([safe_sets(FREE, RING, rows), fewest_rows(FREE, RING, rows)], [[(1,)], 1])
        self.assertEqual(few_rows(FREE, RING, rows), [0])


class FewestTest(unittest.TestCase):

    def check(self, planner, condition, rows):
        right = right_fewest(planner, condition, rows)
        for _ in range(2):
            self.assertEqual(fewest_rows(planner, condition, rows), right)
            found = few_rows(planner, condition, rows)
            if right is None:
                self.assertIsNone(found)
                continue
            self.assertEqual([len(found), sorted(set(found))], [right, found])
            for _, said in all_said(planner, condition, [rows[index] for index in found]):
                self.assertIn("error", said)
            found.append(9)
        return right

    def test_flat_frames(self):
        source, sizes = random.Random(145), set()
        for _ in range(400):
            frame = make_flat(source, always=0.05)
            rows = frame.mild_rows(9)
            for planner in (FREE, UNKNOWN):
                sizes.add(self.check(planner, frame.condition, rows))
        self.assertLessEqual({None, 1, 2, 3}, sizes)

    def test_rings(self):
        # Of many parts each errs at one row, at which the next one decides.
        for many in range(1, 7):
            condition = ("any", tuple([leaf(name) for name in "abcdef"[:many]]))
            rows = [{name: SAYS["no"] for name in "abcdef"} for _ in range(many)]
            for index, row in enumerate(rows):
                row["abcdef"[index]] = SAYS["error"]
                if many > 1:
                    row["abcdef"[(index + 1) % many]] = SAYS["yes"]
            self.assertEqual([fewest_rows(FREE, condition, rows), few_rows(FREE, condition, rows)],
                             [many, list(range(many))])
            self.assertEqual([fewest_rows(FREE, condition, rows[1:]), few_rows(FREE, condition, rows[1:])], [None, None])
            doubled = few_rows(FREE, condition, rows + rows)
            self.assertEqual(sorted([index % many for index in doubled]), list(range(many)))
            rows[0] = {name: SAYS["error"] for name in "abcdef"}
            self.assertEqual([fewest_rows(FREE, condition, rows), few_rows(FREE, condition, rows)], [1, [0]])

    def test_six_parts_and_twelve_rows(self):
        source = random.Random(146)
        condition = ("all", tuple([leaf(name) for name in "abcdef"]))
        for _ in range(3):
            rows = [{name: SAYS[source.choices(("no", "yes", "error"), (2, 3, 2))[0]] for name in "abcdef"}
                    for _ in range(12)]
            rows = [row for row in rows if SAYS["no"] in row.values()]
            self.check(FREE, condition, rows)

    def test_no_rows_and_no_parts(self):
        for kind in ("all", "any"):
            for condition in ((kind, ()), (kind, (TENS, SOME))):
                self.assertEqual([fewest_rows(FREE, condition, []), few_rows(FREE, condition, [])], [None, None])
            self.assertEqual([fewest_rows(FREE, (kind, ()), [{}]), few_rows(FREE, (kind, ()), [{}])], [None, None])

    def test_beneath_and_early_mean_nothing(self):
        for planner in right_planners():
            if planner.mode == "free" and not planner.folds:
                self.assertEqual([fewest_rows(planner, RING, THREE), few_rows(planner, RING, THREE)], [3, [0, 1, 2]])


if __name__ == "__main__":
    unittest.main()
