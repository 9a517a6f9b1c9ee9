"""Point [80]: outcomes, and conditions that have the same ones."""

import random
import unittest

from refusedahead.compared import alike, is_parting, is_straying, may_stand, outcomes, parting, straying
from refusedahead.planners import Planner
from refusedahead.tables import Table
from tests.comparing import Masks, differing, leaves_in, make_pair, right_outcomes, table_for
from tests.planning import SAYS, leaf, make_frame, make_node, plain_planners, right_planners
from tests.test_classes import all_rows
from tests.things import any_things

FREE, TEXT, EVERY = Planner("free"), Planner("text"), Planner("every")
FOLDS = Planner("free", folds=True)
SOME, TENS = ("asks", "n", (), "<>", 0), ("asks", "n", (("over", 10),), ">", 3)
BOTH, CASE = ("all", (TENS, SOME)), ("case", ((SOME, TENS),), ("always", "no"))
TABLE = Table([("n", -9, 9, False, False)])
ERROR, YES, NO = ("always", "error"), ("always", "yes"), ("always", "no")
BOUND = 10 ** 12


def ring(names):
    """An all of leaves and, for each of them, a row at which it errs and the next one decides."""
    condition = ("all", tuple([leaf(name) for name in names]))
    rows = []
    for index, name in enumerate(names):
        row = {other: SAYS["yes"] for other in names}
        row[name], row[names[(index + 1) % len(names)]] = SAYS["error"], SAYS["no"]
        rows.append(row)
    return condition, rows


class OutcomesTest(unittest.TestCase):

    def check(self, planner, condition, rows):
        kept = [dict(row) for row in rows]
        right = right_outcomes(planner, condition, rows)
        for _ in range(2):
            found = outcomes(planner, condition, rows)
            self.assertEqual(found, right, (condition, rows))
            for outcome in found:
                if isinstance(outcome, list):
                    outcome.append(7)
            found.clear()
        self.assertEqual(rows, kept)
        return len(right)

    def test_by_going_through_all_plans(self):
        source, planners, seen = random.Random(211), right_planners(), []
        for _ in range(1500):
            frame = make_node(source, 2, 24) if source.random() < 0.7 else make_frame(source, 3, 24)
            seen.append(self.check(source.choice(planners), frame.condition, frame.rows(5, (6, 2, 6, 1))))
        self.assertGreater(seen.count(2), 30)

    def test_no_rows(self):
        for planner in plain_planners():
            self.check(planner, BOTH, [])
            self.check(planner, ("any", (YES, ERROR)), [])
            self.assertEqual(outcomes(planner, ERROR, []), ["errs"] if planner.folds else [[]])

    def test_equal_rows(self):
        self.assertEqual(outcomes(FREE, BOTH, [{"n": 1}] * 3), [[0, 1, 2]])
        self.assertEqual(outcomes(FREE, BOTH, [{"n": 0}, {"n": 1}, {"n": 0}, {"n": 1}]), [[1, 3], "errs"])
        self.assertEqual(outcomes(FREE, ("all", (TENS,)), [{"n": 0}] * 2), ["errs"])

    def test_modes(self):
        rows = [{"n": 0}, {"n": 2}]
        self.assertEqual([outcomes(planner, BOTH, rows) for planner in (FREE, TEXT, EVERY)],
                         [[[1], "errs"], ["errs"], ["errs"]])
        self.assertEqual(outcomes(TEXT, ("all", (SOME, TENS)), rows), [[1]])


class ComparedTest(unittest.TestCase):

    def check(self, planner, table, one, other, right):
        """Holds all answers against what is right: whether the two differ, whether the other has more."""
        apart, more = right
        told = (planner.mode, table.columns(), one, other)
        for _ in range(2):
            self.assertIs(alike(planner, table, one, other), not apart, told)
            self.assertIs(may_stand(planner, table, one, other), not more, told)
            found = parting(planner, table, one, other)
            self.check_paper(planner, table, one, other, found, apart)
            self.assertIs(is_parting(planner, table, one, other, found), apart)
            found = straying(planner, table, one, other)
            self.check_paper(planner, table, one, other, found, more)
            self.assertIs(is_straying(planner, table, one, other, found), more)
            if found is not None:
                self.assertIs(is_parting(planner, table, one, other, found), True)
                self.assertIn(found[1], right_outcomes(planner, other, found[0]))
                for row in found[0]:
                    row.clear()
                found[0].clear()

    def check_paper(self, planner, table, one, other, found, there):
        self.assertEqual(found is not None, there)
        if found is None:
            return
        rows, outcome = found
        self.assertTrue(len(rows) == 1 or len(rows) <= max(leaves_in(one), leaves_in(other)))
        for row in rows:
            self.assertIs(table.has_row(row), True)
            self.assertEqual(list(row), sorted(row))
        self.assertEqual(len({id(row) for row in rows}), len(rows))
        sides = [outcome in right_outcomes(planner, condition, rows) for condition in (one, other)]
        self.assertEqual(sorted(sides), [False, True])

    def test_small_tables_by_all_contents(self):
        source, planners, seen = random.Random(212), right_planners(), []
        for _ in range(900):
            names = "ab"[:source.choice((1, 2, 2))]
            table = table_for(source, names, source.choice((0, 0, 0, 1)))
            one, other = make_pair(source, names)
            planner, rows = source.choice(planners + [FREE] * 48), all_rows(table)
            right = differing(Masks(planner, one, rows), Masks(planner, other, rows), len(rows))
            self.check(planner, table, one, other, right)
            seen.append(right)
        counts = [seen.count(right) for right in ((True, True), (True, False), (False, False))]
        self.assertGreater(min(counts[0], 9 * counts[1], counts[2]), 60)

    def test_more_columns(self):
        source, planners, together = random.Random(213), [FREE, Planner("free", unknown=True)], 0
        for _ in range(150):
            names = "abc"
            table = table_for(source, names)
            one, other = make_pair(source, names)
            planner, rows = source.choice(planners), all_rows(table)
            right = differing(Masks(planner, one, rows), Masks(planner, other, rows), len(rows))
            self.check(planner, table, one, other, right)
            found = parting(planner, table, one, other)
            together += found is not None and len(found[0]) > 1
        self.assertGreater(together, 3)

    def test_rows_that_have_to_come_together(self):
        names = "abc"
        condition, rows = ring(names)
        table = Table([(name, 0, 2, False, False) for name in names])
        # At each single row some order of the ring is safe, at the three of them none is.
        for row in rows:
            self.assertEqual(outcomes(FREE, condition, [row]), [[], "errs"])
        self.assertEqual(outcomes(FREE, condition, rows), ["errs"])
        turned = ("all", tuple([leaf(name) for name in "bca"]))
        self.check(FREE, table, condition, turned, (False, False))
        self.check(TEXT, table, condition, turned, (True, True))

    def test_more_than_one_row_apart(self):
        a, b, c = [leaf(name) for name in "abc"]
        table = Table([(name, 0, 2, False, False) for name in "abc"])
        flat, lot = ("all", (a, b, c)), ("all", (("all", (a, b)), c))
        serving = ("case", ((("asks", "c", (), "=", 1), ("all", (a, b))),), ("all", (a, b)))
        for one, other in ((flat, lot), (("all", (a, b)), serving)):
            rows = all_rows(table)
            for row in rows:
                self.assertEqual(outcomes(FREE, one, [row]), outcomes(FREE, other, [row]))
            right = differing(Masks(FREE, one, rows), Masks(FREE, other, rows), len(rows))
            self.assertIn(right, [(True, True), (True, False)])
            self.check(FREE, table, one, other, right)
            self.assertGreater(len(parting(FREE, table, one, other)[0]), 1)
            self.check(TEXT, table, one, other, (False, False))

    def test_wide_tables(self):
        wide = Table([("n", -BOUND, BOUND, False, False)])
        last = ("asks", "n", (("plus", 1 - BOUND), ("over", 1)), "=", 1)
        self.check(FREE, wide, last, ("asks", "n", (), "=", BOUND), (True, True))
        self.assertEqual(len(parting(FREE, wide, last, ("asks", "n", (), "=", BOUND))[0]), 1)
        self.check(FREE, wide, BOTH, CASE, (True, False))
        self.check(FREE, wide, CASE, BOTH, (True, True))
        self.assertEqual(straying(FREE, wide, CASE, BOTH), ([{"n": 0}], "errs"))
        one, other = ("asks", "n", (("into", 2),), ">=", 5), ("asks", "n", (), ">=", 10)
        self.check(FREE, wide, one, other, (False, False))
        self.check(FREE, wide, one, ("asks", "n", (), ">", 10), (True, True))

    def test_indexes_take_away_what_differs(self):
        self.check(FREE, TABLE, BOTH, CASE, (True, False))
        self.check(FREE, TABLE.with_index(TENS), BOTH, CASE, (False, False))
        self.check(TEXT, TABLE, BOTH, CASE, (True, True))
        self.check(TEXT, TABLE, ("all", (SOME, TENS)), CASE, (False, False))

    def test_a_table_without_a_row(self):
        table = Table([("n", 0, 0, False, False)], [("asks", "n", (("over", 1),), "=", 0)])
        for planner in plain_planners():
            self.check(planner, table, YES, NO, (False, False))
            self.check(planner, table, BOTH, ("not", BOTH), (False, False))
            self.check(planner, table, YES, ("any", (YES, ERROR)), (planner.folds,) * 2)
            self.check(planner, table, ("any", (YES, ERROR)), YES, (planner.folds,) * 2)
        self.assertEqual(parting(FOLDS, table, YES, ERROR)[0], [])

    def test_folds(self):
        held = ("case", ((YES, YES),), ERROR)
        for one, other, right in ((YES, held, (True, True)), (held, YES, (True, True)), (held, ERROR, (False, False)),
                                  (held, held, (False, False))):
            self.check(FOLDS, TABLE, one, other, right)
        self.check(FREE, TABLE, YES, held, (False, False))
        self.check(FREE, TABLE, held, ERROR, (True, True))

    def test_unknown(self):
        table = Table([("n", 0, 1, True, False)])
        one, other = ("all", (("asks", "n", (), "=", 1), ERROR)), ("all", (("number", "n"), SOME, ERROR))
        for unknown in (False, True):
            planner = Planner("text", unknown=unknown)
            rows = all_rows(table)
            right = differing(Masks(planner, one, rows), Masks(planner, other, rows), len(rows))
            self.check(planner, table, one, other, right)

    def test_asked_by_turns(self):
        pairs = [(BOTH, CASE), (CASE, BOTH), (BOTH, BOTH), (SOME, TENS)]
        right = [(planner, one, other, alike(planner, TABLE, one, other), parting(planner, TABLE, one, other))
                 for planner in (FREE, TEXT) for one, other in pairs]
        for planner, one, other, same, paper in right[::-1] + right:
            self.assertIs(alike(planner, TABLE, one, other), same)
            self.assertEqual(parting(planner, TABLE, one, other), paper)
        self.assertEqual([same for _, _, _, same, _ in right], [False, False, True, False] * 2)


class PaperTest(unittest.TestCase):

    def test_otherwise(self):
        paper = ([{"n": 0}], "errs")
        self.assertIs(is_parting(FREE, TABLE, BOTH, CASE, paper), True)
        self.assertIs(is_parting(FREE, TABLE, CASE, BOTH, paper), True)
        self.assertIs(is_straying(FREE, TABLE, CASE, BOTH, paper), True)
        self.assertIs(is_straying(FREE, TABLE, BOTH, CASE, paper), False)
        for thing in (([{"n": 1}], "errs"), ([{"n": 0}], []), ([{"n": 0}], [0]), ([{"n": 10}], "errs"),
                      ([{"n": True}], "errs"), ([{"n": False}], "errs"), ([{"n": None}], "errs"), ([{}], "errs"),
                      ([{"n": 0, "m": 0}], "errs"), ({"n": 0}, "errs"), (({"n": 0},), "errs"), [[{"n": 0}], "errs"],
                      ([{"n": 0}], "error"), ([{"n": 0}], ["errs"]), ([{"n": 0}], None), ([{"n": 0}], "errs", 0),
                      ([{"n": 0}],), ([], "errs"), ([], []), ([[{"n": 0}]], "errs"), ([{"n": 0}], ("errs",))):
            self.assertIs(is_parting(FREE, TABLE, BOTH, CASE, thing), False, thing)
            self.assertIs(is_straying(FREE, TABLE, CASE, BOTH, thing), False, thing)

    def test_more_rows(self):
        for many in (1, 2, 12, 100):
            rows = [{"n": number % 10} for number in range(many)]
            self.assertIs(is_parting(FREE, TABLE, BOTH, CASE, (rows, "errs")), True)
            self.assertIs(is_straying(FREE, TABLE, CASE, BOTH, (rows[::-1], "errs")), True)
        self.assertIs(is_parting(FREE, TABLE, BOTH, CASE, ([{"n": 1}, {"n": 0}], [0])), False)

    def test_truths_are_no_indexes(self):
        rows = [{"n": 1}, {"n": 2}]
        for outcome, right in (([0], True), ([1], True), ([False], False), ([True], False), ([0, 1], False),
                               ([0.0][:0] + ["0"], False), ((0,), False), ([], False)):
            one, other = ("asks", "n", (), "=", 1), ("asks", "n", (), "=", 2)
            self.assertIs(is_parting(FREE, TABLE, one, other, (rows, outcome)), right, outcome)
        self.assertIs(is_straying(FREE, TABLE, one, other, (rows, [1])), True)
        self.assertIs(is_straying(FREE, TABLE, one, other, (rows, [0])), False)

    def test_refused_rows(self):
        table = TABLE.with_index(("asks", "n", (("plus", -5), ("over", 1)), "=", 0))
        self.assertIs(is_parting(FREE, table, BOTH, CASE, ([{"n": 0}], "errs")), True)
        self.assertIs(is_parting(FREE, table, BOTH, CASE, ([{"n": 0}, {"n": 5}], "errs")), False)

    def test_any_value(self):
        for thing in any_things() + [(thing, "errs") for thing in any_things() if thing != []]:
            self.assertIs(is_parting(FREE, TABLE, BOTH, CASE, thing), False)
            self.assertIs(is_straying(FREE, TABLE, CASE, BOTH, thing), False)
        for thing in any_things():
            self.assertIs(is_parting(FREE, TABLE, BOTH, CASE, ([{"n": 0}], thing)), False)
            self.assertIs(is_straying(FREE, TABLE, CASE, BOTH, ([thing, {"n": 0}], "errs")), False)


if __name__ == "__main__":
    unittest.main()
