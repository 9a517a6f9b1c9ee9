"""Point [60]: plans that err at none of some rows."""

import itertools
import random
import unittest

from refusedahead.planners import Planner
from refusedahead.plans import text_plan
from refusedahead.safe import greatest_lot, is_safe_plan, may_follow, open_rows, safe_plan
from refusedahead.texts import put_at
from tests.makers import always
from tests.planning import (
    SAYS, all_places, big_conditions, chosen, joined, leaf, make_frame, make_node, plain_planners, right_asked_by,
    right_count, right_planners, right_plans, right_run, safe_for, safe_plans)
from tests.things import any_things

SOME, TENS = ("asks", "n", (), "<>", 0), ("asks", "n", (("over", 10),), ">", 3)
BOTH, ROWS = ("all", (TENS, SOME)), [{"n": 0}, {"n": 2}]
FREE, TEXT, EVERY = Planner("free"), Planner("text"), Planner("every")
FREES = [planner for planner in right_planners() if planner.mode == "free"]


class PlanTest(unittest.TestCase):

    def check(self, planner, condition, rows):
        plans = chosen(planner, condition)
        rights = safe_plans(planner, condition, rows)
        told = [dict(row) for row in rows]
        for _ in range(2):
            found = safe_plan(planner, condition, rows)
            self.assertEqual(rows, told)
            if rights:
                self.assertIn(found, rights)
                self.assertEqual(list(found), sorted(found))
                for order in found.values():
                    order.append(9)
                found.clear()
            else:
                self.assertIsNone(found)
            for plan in plans:
                self.assertIs(is_safe_plan(planner, condition, rows, plan), plan in rights)
        return len(rights)

    def test_frames(self):
        source, seen = random.Random(111), set()
        for _ in range(220):
            frame = make_frame(source, 3, 24)
            rows = frame.rows(4, source.choice(((3, 1, 3, 1), (4, 0, 4, 1), (3, 2, 3, 2))))
            for planner in plain_planners():
                many = self.check(planner, frame.condition, rows)
                seen.add((planner.mode, many > 0, planner.mode == "free" and 0 < many < right_count(frame.condition)))
        self.assertEqual(len(seen), 7)

    def test_many_plans(self):
        source, some = random.Random(112), 0
        while some < 8:
            frame = make_frame(source, 4, 720, always=0)
            if right_count(frame.condition) >= 96:
                rows = [frame.row((5, 1, 5, 1)) for _ in range(2)]
                rights = safe_plans(FREE, frame.condition, rows)
                some += 0 < len(rights) < right_count(frame.condition)
                found = safe_plan(FREE, frame.condition, rows)
                self.assertTrue(found in rights if rights else found is None)

    def test_no_rows(self):
        source = random.Random(113)
        for condition in big_conditions() + [make_frame(source, 3, 720).condition for _ in range(30)]:
            for planner in plain_planners():
                folded = planner.folds and ("always", "error") in [part for _, part in all_places(condition)]
                found = safe_plan(planner, condition, [])
                if folded:
                    self.assertIsNone(found)
                else:
                    self.assertIs(is_safe_plan(planner, condition, [], found), True)
                self.assertIs(is_safe_plan(planner, condition, [], text_plan(condition)), not folded)

    def test_equal_rows(self):
        for many in (1, 2, 50, 400):
            self.assertEqual(safe_plan(FREE, BOTH, [{"n": 0}] * many), {(): [1, 0]})
            self.assertIsNone(safe_plan(TEXT, BOTH, [{"n": 0}] * many))
            self.assertEqual(safe_plan(TEXT, BOTH, [{"n": 2}] * many), {(): [0, 1]})
            self.assertIsNone(safe_plan(EVERY, BOTH, [{"n": 0}] * many))

    def test_four_hundred_rows(self):
        source, seen = random.Random(114), set()
        for _ in range(4):
            frame = make_frame(source, 3, 12, always=0)
            weights = source.choice(((1, 0, 9, 0), (20, 1, 40, 1)))
            rows = [frame.row(weights) for _ in range(400)]
            for planner in plain_planners():
                seen.add(self.check(planner, frame.condition, rows) > 0)
        self.assertEqual(seen, {False, True})

    def growing_rows(self, source, planner, condition, most):
        """Rows with which some plan at random errs at none."""
        plan = text_plan(condition)
        for order in plan.values():
            source.shuffle(order)
        rows = []
        for _ in range(4 * most):
            row = {name: SAYS[source.choices(("no", "unknown", "yes", "error"), (4, 1, 5, 2))[0]]
                   for name in "abcdefghijkl"}
            if len(rows) < most and right_run(planner, condition, plan, row) != "error":
                rows.append(row)
        return rows, plan

    def test_far_more_plans(self):
        source = random.Random(115)
        for condition in big_conditions():
            for planner, most in ((FREE, 100), (Planner("free", unknown=True), 25)):
                rows, plan = self.growing_rows(source, planner, condition, most)
                self.assertGreater(len(rows), 10)
                self.assertIs(is_safe_plan(planner, condition, rows, plan), True)
                found = safe_plan(planner, condition, rows)
                self.assertTrue(safe_for(planner, condition, found, rows))
                self.assertIs(is_safe_plan(planner, condition, rows, found), True)
                bad = {name: SAYS["error"] for name in "abcdefghijkl"}
                self.assertIsNone(safe_plan(planner, condition, rows + [bad]))
                self.assertIs(is_safe_plan(planner, condition, rows + [bad], found), False)

    def test_nodes_within_one_another(self):
        # Each of a chain of nodes is to be asked ahead of the leaf that stands ahead of it.
        for depth in range(1, 8):
            condition = leaf("z")
            for level in range(depth):
                condition = (("all", "any")[level % 2], (leaf("a"), condition))
            row = {"a": SAYS["error"], "z": SAYS["no"]}
            found = safe_plan(FREE, condition, [row])
            if depth == 1:
                self.assertEqual(found, {(): [1, 0]})
            else:
                self.assertIsNone(found)
            self.assertIsNotNone(safe_plan(FREE, condition, [{"a": SAYS["yes"], "z": SAYS["no"]}]))

    def test_within_nots_cases_and_firsts(self):
        inner = ("all", (leaf("a"), leaf("b")))
        row = {"a": SAYS["error"], "b": SAYS["no"]}
        for condition, address in (
                (("not", inner), (0,)), (("case", ((inner, always("error")),), always("yes")), (0,)),
                (("case", ((always("yes"), inner),), always("error")), (1,)),
                (("case", ((always("no"), always("error")),), inner), (2,)), (("first", (inner, always("error"))), (0,)),
                (("first", (always("unknown"), inner)), (1,)), (("not", ("not", ("first", (inner,)))), (0, 0, 0))):
            self.assertEqual(safe_plan(FREE, condition, [row]), {address: [1, 0]})
            self.assertIsNone(safe_plan(TEXT, condition, [row]))
            self.assertIsNone(safe_plan(FREE, condition, [row, {"a": SAYS["error"], "b": SAYS["yes"]}]))

    def test_unknown(self):
        condition, row = ("all", (leaf("a"), leaf("b"))), {"a": SAYS["error"], "b": SAYS["unknown"]}
        self.assertIsNone(safe_plan(FREE, condition, [row]))
        self.assertEqual(safe_plan(Planner("free", unknown=True), condition, [row]), {(): [1, 0]})
        self.assertIsNone(safe_plan(Planner("free", unknown=True), ("not", condition), [row]))

    def test_folds(self):
        condition = ("any", (always("error"), always("yes")))
        self.assertEqual(safe_plan(FREE, condition, [{}]), {(): [1, 0]})
        for mode in ("every", "free", "text"):
            for rows in ([], [{}], [{}, {}]):
                planner = Planner(mode, folds=True)
                self.assertIsNone(safe_plan(planner, condition, rows))
                for plan in right_plans(condition):
                    self.assertIs(is_safe_plan(planner, condition, rows, plan), False)

    def test_any_value(self):
        right = {(): [1, 0]}
        self.assertIs(is_safe_plan(FREE, BOTH, ROWS, right), True)
        for thing in any_things() + [{(): (1, 0)}, {(): [True, False]}, {(): [1]}, {(): [1, 0, 0]}, {(): [1, 1]}, [right],
                                     {(): [1, 0], (0,): []}, {(0,): [1, 0]}, {"": [1, 0]}, {(): [0, 1]}, {}]:
            self.assertIs(is_safe_plan(FREE, BOTH, ROWS, thing), False)
        # By "text" and by "every" there is one plan alone.
        for planner in (TEXT, EVERY):
            self.assertIs(is_safe_plan(planner, BOTH, ROWS, right), False)
            self.assertIs(is_safe_plan(planner, BOTH, [{"n": 2}], right), False)
            self.assertIs(is_safe_plan(planner, BOTH, [{"n": 2}], {(): [0, 1]}), True)

    def test_beneath_and_early_mean_nothing(self):
        for planner in right_planners():
            plain = Planner(planner.mode, unknown=planner.unknown, folds=planner.folds)
            for rows in (ROWS, ROWS[1:], []):
                self.assertEqual(safe_plan(planner, BOTH, rows), safe_plan(plain, BOTH, rows))

    def test_told_rows_changed_between(self):
        rows = [{"n": 2}]
        self.assertEqual(safe_plan(TEXT, BOTH, rows), {(): [0, 1]})
        rows.append({"n": 0})
        self.assertIsNone(safe_plan(TEXT, BOTH, rows))
        rows[1]["n"] = 3
        self.assertEqual(safe_plan(TEXT, BOTH, rows), {(): [0, 1]})
        self.assertEqual(rows, [{"n": 2}, {"n": 3}])


def part_values(planner, condition, row):
    """The values of the parts of a node at a row, by going through all plans."""
    found = []
    for index in range(len(condition[1])):
        said = {right_asked_by(planner, condition, plan, row, (index,))[0] for plan in right_plans(condition)}
        found.append(joined(said)[0])
    return found


def right_open(planner, condition, rows, lot):
    """The rows that are open behind a lot, by going through all plans."""
    decisive = {"all": "no", "any": "yes"}[condition[0]]
    values = [part_values(planner, condition, row) for row in rows]
    return [index for index, told in enumerate(values) if decisive not in [told[part] for part in lot]]


def right_followers(planner, condition, rows, lot):
    """The parts that may follow behind a lot, by going through all plans."""
    left = right_open(planner, condition, rows, lot)
    found = []
    for part in range(len(condition[1])):
        for plan in right_plans(condition):
            said = [right_asked_by(planner, condition, plan, rows[row], (part,))[0] for row in left]
            if part not in lot and part not in found and "error" not in said:
                found.append(part)
    return found


class LotTest(unittest.TestCase):

    def check(self, planner, condition, rows, source):
        indexes = range(len(condition[1]))
        for many in range(len(indexes) + 1):
            for lot in itertools.combinations(indexes, many):
                lot = source.sample(lot, many)
                told = list(lot)
                for _ in range(2):
                    found = open_rows(planner, condition, rows, lot)
                    self.assertEqual(found, right_open(planner, condition, rows, lot))
                    found.append(9)
                    found = may_follow(planner, condition, rows, lot)
                    self.assertEqual(found, right_followers(planner, condition, rows, lot))
                    found.append(9)
                    self.assertEqual(lot, told)
        self.check_greatest(planner, condition, rows, source)

    def check_greatest(self, planner, condition, rows, source):
        lot = []
        following = right_followers(planner, condition, rows, lot)
        while following:
            lot.append(source.choice(following))
            following = right_followers(planner, condition, rows, lot)
        for _ in range(2):
            found = greatest_lot(planner, condition, rows)
            self.assertEqual(found, sorted(lot))
            found.append(9)

    def test_nodes(self):
        source, sizes = random.Random(116), set()
        for _ in range(110):
            frame = make_node(source, 3, 12)
            rows = frame.rows(4, (4, 1, 4, 2))
            sizes.add(len(greatest_lot(FREE, frame.condition, rows)) < len(frame.condition[1]))
            for planner in source.sample(FREES, 3):
                self.check(planner, frame.condition, rows, source)
        self.assertEqual(sizes, {False, True})

    def test_six_parts_in_any_order(self):
        condition = ("all", tuple([leaf(name) for name in "abcdef"]))
        rows = [{name: SAYS[said] for name, said in zip("abcdef", told)} for told in (
            ("error", "no", "yes", "yes", "yes", "yes"), ("yes", "error", "no", "yes", "yes", "yes"),
            ("no", "yes", "yes", "error", "yes", "unknown"))]
        self.assertEqual(may_follow(FREE, condition, rows, []), [2, 4, 5])
        for lot in itertools.permutations([2, 5, 1]):
            self.assertEqual(may_follow(FREE, condition, rows, list(lot)), [0, 4])
            self.assertEqual(open_rows(FREE, condition, rows, list(lot)), [2])
        self.assertEqual(open_rows(Planner("free", unknown=True), condition, rows, [5, 1, 2]), [])
        self.assertEqual(greatest_lot(FREE, condition, rows), [0, 1, 2, 3, 4, 5])
        self.assertEqual(greatest_lot(FREE, condition, rows + [{name: SAYS["error"] for name in "abcdef"}]), [])

    def test_folds_means_nothing(self):
        condition = ("any", (always("error"), leaf("a")))
        for planner in FREES:
            rows = [{"a": SAYS["yes"]}, {"a": SAYS["no"]}]
            self.assertEqual(may_follow(planner, condition, rows[:1], [1]), [0])
            self.assertEqual(greatest_lot(planner, condition, rows[:1]), [0, 1])
            self.assertEqual(greatest_lot(planner, condition, rows), [1])
            self.assertEqual(open_rows(planner, condition, rows, [1]), [1])

    def test_without_parts_and_without_rows(self):
        for kind in ("all", "any"):
            self.assertEqual([open_rows(FREE, (kind, ()), [{}, {}], []), may_follow(FREE, (kind, ()), [{}], []),
                              greatest_lot(FREE, (kind, ()), [{}])], [[0, 1], [], []])
        self.assertEqual([open_rows(FREE, BOTH, [], [1]), may_follow(FREE, BOTH, [], [1]), greatest_lot(FREE, BOTH, [])],
                         [[], [0], [0, 1]])

    def test_four_hundred_rows(self):
        source = random.Random(117)
        condition = big_conditions()[1]
        rows = [{name: SAYS[source.choices(("no", "yes", "error"), (4, 4, 1))[0]] for name in "abcdefghijkl"}
                for _ in range(400)]
        for lot in ([], [3], [5, 0], [1, 4, 2]):
            decided = [row for row, told in enumerate(rows) for part in lot
                       if told["abcdef"[part]] == told["ghijkl"[part]] == SAYS["no"]]
            self.assertEqual(open_rows(FREE, condition, rows, lot),
                             [row for row in range(400) if row not in decided])

    def test_told_things_changed_between(self):
        rows, lot = [{"n": 0}, {"n": 2}], [1]
        self.assertEqual([open_rows(FREE, BOTH, rows, lot), may_follow(FREE, BOTH, rows, lot)], [[1], [0]])
        lot.pop()
        self.assertEqual([open_rows(FREE, BOTH, rows, lot), may_follow(FREE, BOTH, rows, lot)], [[0, 1], [1]])
        rows.pop(0)
        self.assertEqual([open_rows(FREE, BOTH, rows, lot), may_follow(FREE, BOTH, rows, lot)], [[0], [0, 1]])
        self.assertEqual([greatest_lot(FREE, BOTH, rows), lot, rows], [[0, 1], [], [{"n": 2}]])

    def test_a_part_within_is_put_in_order(self):
        condition = put_at(("all", (leaf("a"), leaf("b"))), (0,), ("any", (leaf("c"), leaf("d"))))
        row = {"a": SAYS["yes"], "b": SAYS["error"], "c": SAYS["error"], "d": SAYS["yes"]}
        self.assertEqual(may_follow(FREE, condition, [row], []), [0])
        row["b"] = SAYS["yes"]
        self.assertEqual(safe_plan(FREE, condition, [row]), {(): [0, 1], (0,): [1, 0]})


if __name__ == "__main__":
    unittest.main()
