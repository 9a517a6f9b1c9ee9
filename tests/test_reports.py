"""Point [81]: reports of outcomes, and what they tell of planners and plans."""

import random
import unittest

from refusedahead.planners import Planner
from refusedahead.reports import fits, is_telling, plan_of, planners_for, steady, surest, telling
from refusedahead.tables import Table
from tests.comparing import Masks, differing, make_one, make_pair, right_outcomes, table_for
from tests.planning import chosen, folded, right_count, right_kept_by, right_planners, right_run
from tests.test_classes import all_rows
from tests.test_compared import BOTH, BOUND, CASE, ERROR, NO, SOME, TABLE, TENS, YES
from tests.things import any_things

FREE, TEXT, EVERY = Planner("free"), Planner("text"), Planner("every")
TOLD = [(mode, unknown, folds) for mode in ("every", "free", "text") for unknown in (False, True)
        for folds in (False, True)]


def made(told):
    mode, unknown, folds = told
    return Planner(mode, unknown=unknown, folds=folds)


def make_question(source):
    """A table and a condition that fits it, of at most 24 plans."""
    names = "ab"[:source.choice((1, 2))]
    table = table_for(source, names, source.choice((0, 0, 0, 1)))
    while True:
        condition = make_one(source, names) if source.random() < 0.5 else make_pair(source, names)[1]
        if right_count(condition) <= 24:
            return table, condition


class SurestTest(unittest.TestCase):

    def errs_by(self, told, condition, rows):
        """For each plan that may be chosen whether it errs at some contents."""
        planner = made(told)
        return [folded(planner, condition) or "error" in [right_run(planner, condition, plan, row) for row in rows]
                for plan in chosen(planner, condition)]

    def check(self, table, condition):
        errs = {told: self.errs_by(told, condition, all_rows(table)) for told in TOLD}
        for _ in range(2):
            found = [surest(condition, table), steady(condition, table)]
            self.assertEqual(found, [[told for told in TOLD if not any(errs[told])],
                                     [told for told in TOLD if not all(errs[told])]], (table.columns(), condition))
            found[0].clear()
            found[1].reverse()
        return len(found[1])

    def test_by_going_through_all_rows(self):
        source, seen = random.Random(221), set()
        for _ in range(250):
            table, condition = make_question(source)
            seen.add(self.check(table, condition))
        self.assertGreater(len(seen), 5)

    def test_as_it_stands_there(self):
        self.assertEqual(surest(YES, TABLE), TOLD)
        self.assertEqual(surest(("any", (YES, ERROR)), TABLE), [("text", False, False), ("text", True, False)])
        self.assertEqual(steady(("any", (YES, ERROR)), TABLE), [
            ("free", False, False), ("free", True, False), ("text", False, False), ("text", True, False)])
        self.assertEqual([surest(ERROR, TABLE), steady(ERROR, TABLE)], [[], []])
        self.assertEqual(surest(CASE, TABLE), TOLD)
        self.assertEqual([surest(BOTH, TABLE), steady(BOTH, TABLE)], [[], [told for told in TOLD if told[0] == "free"]])

    def test_a_table_without_a_row(self):
        table = Table([("n", 0, 0, False, False)], [TENS])
        self.check(table, BOTH)
        self.check(table, ERROR)
        self.assertEqual(surest(ERROR, table), [told for told in TOLD if not told[2]])

    def test_unknown(self):
        table = Table([("n", 1, 2, True, False)])
        condition = ("all", (("asks", "n", (), ">", 0), ("not", ("number", "n")), ERROR))
        self.check(table, condition)
        self.assertIn(("text", True, False), surest(("all", (("asks", "n", (), ">", 5), ERROR)), table))
        self.assertNotIn(("text", False, False), surest(("all", (("asks", "n", (), ">", 5), ERROR)), table))


class FitsTest(unittest.TestCase):

    def make_report(self, source, table, condition):
        rows = [dict(source.choice(all_rows(table))) for _ in range(source.randrange(4)) if all_rows(table)]
        outcome = source.choice(right_outcomes(source.choice(right_planners()), condition, rows))
        if source.random() < 0.2:
            outcome = source.choice(("errs", [], list(range(len(rows)))))
        return (condition, rows, outcome)

    def right(self, reports):
        return [told for told in TOLD
                if all(outcome in right_outcomes(made(told), condition, rows) for condition, rows, outcome in reports)]

    def test_by_going_through_all_plans(self):
        source, seen = random.Random(222), set()
        for _ in range(250):
            table, condition = make_question(source)
            reports = [self.make_report(source, table, condition) for _ in range(source.randrange(4))]
            if source.random() < 0.3:
                reports += [self.make_report(source, *make_question(source))]
            reports += reports[:source.randrange(2)]
            right = self.right(reports)
            for _ in range(2):
                found = planners_for(reports)
                self.assertEqual(found, right, reports)
                found.clear()
            seen.add(len(right))
            for report in reports:
                planner = source.choice(right_planners())
                self.assertIs(fits(planner, report), report[2] in right_outcomes(planner, report[0], report[1]))
        self.assertGreater(len(seen), 4)

    def test_no_report(self):
        self.assertEqual(planners_for([]), TOLD)

    def test_equal_contents(self):
        rows = [{"n": 0}]
        self.assertEqual(planners_for([(BOTH, rows, []), (BOTH, rows, "errs")]),
                         [told for told in TOLD if told[0] == "free"])
        self.assertEqual(planners_for([(BOTH, rows, []), (BOTH, rows, [0])]), [])
        self.assertEqual(planners_for([(BOTH, rows, "errs")] * 2), TOLD)
        self.assertEqual(planners_for([(BOTH, [], [])]), TOLD)
        self.assertEqual(planners_for([(ERROR, [], "errs")]), [told for told in TOLD if told[2]])

    def test_beneath_and_early_mean_nothing(self):
        for planner in right_planners():
            self.assertIs(fits(planner, (BOTH, [{"n": 0}], [])), planner.mode == "free")
            self.assertIs(fits(planner, (BOTH, [{"n": 0}], "errs")), True)
            self.assertIs(fits(planner, (("any", (YES, ERROR)), [], [])), not planner.folds)


class PlanOfTest(unittest.TestCase):

    def right_plans(self, planner, condition, told):
        """The plans that come to all outcomes told."""
        found = []
        for plan in chosen(planner, condition):
            kept = [right_kept_by(planner, condition, plan, rows) for rows, _ in told]
            if ["errs" if one is None else one for one in kept] == [outcome for _, outcome in told]:
                found.append(plan)
        return found

    def test_by_going_through_all_plans(self):
        source, seen = random.Random(223), []
        for _ in range(400):
            table, condition = make_question(source)
            planner, told = source.choice(right_planners() + [FREE] * 30), []
            for _ in range(source.randrange(4)):
                rows = [dict(source.choice(all_rows(table))) for _ in range(source.randrange(4)) if all_rows(table)]
                outcomes = right_outcomes(planner, condition, rows)
                told.append((rows, source.choice(outcomes if source.random() < 0.9 else ("errs", []))))
            right = self.right_plans(planner, condition, told)
            for _ in range(2):
                found = plan_of(planner, condition, told)
                if found is None:
                    self.assertEqual(right, [])
                else:
                    self.assertIn(found, right)
                    self.assertEqual(list(found), sorted(found))
                    found.clear()
            seen.append(len(right) == 0)
        self.assertGreater(seen.count(True), 5)

    def test_no_told_outcome(self):
        for planner in right_planners():
            self.assertIn(plan_of(planner, BOTH, []), chosen(planner, BOTH))
            self.assertEqual(plan_of(planner, SOME, []), {})

    def test_several(self):
        rows = [{"n": 0}, {"n": 2}]
        self.assertEqual(plan_of(FREE, BOTH, [(rows, [1])]), {(): [1, 0]})
        self.assertEqual(plan_of(FREE, BOTH, [(rows, "errs"), (rows[1:], [0]), ([], [])]), {(): [0, 1]})
        # Each outcome comes by a plan of its own, but by no plan together.
        self.assertIs(plan_of(FREE, BOTH, [(rows, [1]), (rows[:1], "errs")]), None)
        self.assertIs(plan_of(FREE, BOTH, [(rows, [0])]), None)
        self.assertIs(plan_of(TEXT, BOTH, [(rows, [1])]), None)
        self.assertEqual(plan_of(Planner("text", folds=True), ERROR, [([], "errs")]), {})
        self.assertIs(plan_of(Planner("text", folds=True), ERROR, [([], [])]), None)


class TellingTest(unittest.TestCase):

    def check(self, one, other, condition, table, apart):
        for _ in range(2):
            found = telling(one, other, condition, table)
            self.assertEqual(found is not None, apart, (one.mode, other.mode, condition, table.columns()))
            self.assertIs(is_telling(one, other, condition, table, found), apart)
            self.assertIs(is_telling(other, one, condition, table, found), apart)
            if found is None:
                continue
            told, rows, outcome = found
            self.assertEqual(told, condition)
            self.assertLessEqual(len(rows), 12)
            self.assertEqual([table.has_row(row) for row in rows], [True] * len(rows))
            sides = [outcome in right_outcomes(planner, condition, rows) for planner in (one, other)]
            self.assertEqual(sorted(sides), [False, True])
            self.assertEqual([fits(planner, found) for planner in (one, other)], sides)
            for row in rows:
                row.clear()
            rows.clear()

    def test_by_all_contents(self):
        source, seen = random.Random(224), []
        for _ in range(500):
            table, condition = make_question(source)
            one, other, rows = source.choice(right_planners()), source.choice(right_planners()), all_rows(table)
            right = differing(Masks(one, condition, rows), Masks(other, condition, rows), len(rows))[0]
            self.check(one, other, condition, table, right)
            seen.append(right)
        self.assertGreater(min(seen.count(True), seen.count(False)), 50)

    def test_modes(self):
        self.check(FREE, TEXT, BOTH, TABLE, True)
        self.check(FREE, EVERY, BOTH, TABLE, True)
        self.check(TEXT, EVERY, BOTH, TABLE, False)
        self.check(FREE, FREE.with_truth("early", True).with_truth("beneath", True), BOTH, TABLE, False)
        self.check(FREE, FREE.with_truth("folds", True), BOTH, TABLE, False)
        self.check(FREE, FREE.with_truth("folds", True), ("any", (YES, ERROR)), TABLE, True)
        self.check(TEXT, TEXT.with_truth("folds", True), ("any", (YES, ERROR)), Table([]), True)

    def test_wide_tables(self):
        table = Table([("n", -BOUND, BOUND, True, True)])
        last = ("asks", "n", (("plus", -BOUND), ("over", 1)), "=", 0)
        condition = ("all", (("not", ("asks", "n", (), "=", BOUND)), ("number", "n"), last))
        self.check(TEXT, EVERY, condition, table, True)
        self.check(TEXT, TEXT.with_truth("unknown", True), condition, table, False)
        self.check(TEXT, EVERY, condition, table.with_index(last), False)

    def test_asked_by_turns(self):
        pairs = [(FREE, TEXT), (TEXT, FREE), (EVERY, TEXT), (FREE, FREE)]
        right = [telling(one, other, BOTH, TABLE) for one, other in pairs]
        for _ in range(2):
            self.assertEqual([telling(one, other, BOTH, TABLE) for one, other in pairs], right)
        self.assertEqual([paper is None for paper in right], [False, False, True, True])


class IsTellingTest(unittest.TestCase):

    def test_otherwise(self):
        report = (BOTH, [{"n": 0}], [])
        self.assertIs(is_telling(FREE, TEXT, BOTH, TABLE, report), True)
        self.assertIs(is_telling(FREE, TEXT, BOTH, TABLE, (BOTH, [{"n": 1}, {"n": 0}, {"n": 1}], [0, 2])), True)
        for thing in ((CASE, [{"n": 0}], []), (("all", (TENS, SOME, SOME)), [{"n": 0}], []),
                      (BOTH, [{"n": 0}], "errs"), (BOTH, [{"n": 1}], [0]), (BOTH, [], []),
                      (BOTH, [{"n": 0}], [0]), (BOTH, [{"n": 10}], []), (BOTH, [{"n": False}], []),
                      (BOTH, ({"n": 0},), []), (BOTH, [{"n": 0}], ()), [BOTH, [{"n": 0}], []], (BOTH, [{"n": 0}]),
                      (BOTH, [{"n": 0}], [], 0), (None, [{"n": 0}], []), (BOTH, [{"n": 1}, {"n": 0}], [False])):
            self.assertIs(is_telling(FREE, TEXT, BOTH, TABLE, thing), False, thing)
        self.assertIs(is_telling(FREE, FREE, BOTH, TABLE, report), False)

    def test_truths_in_the_condition(self):
        one, other = ("asks", "n", (), "=", 1), ("asks", "n", (), "=", True)
        condition, odd = ("all", (TENS, one, SOME)), ("all", (TENS, other, SOME))
        self.assertIs(is_telling(FREE, TEXT, condition, TABLE, (condition, [{"n": 0}], [])), True)
        self.assertIs(is_telling(FREE, TEXT, condition, TABLE, (odd, [{"n": 0}], [])), False)

    def test_any_value(self):
        for thing in any_things():
            self.assertIs(is_telling(FREE, TEXT, BOTH, TABLE, thing), False)
            self.assertIs(is_telling(FREE, TEXT, BOTH, TABLE, (thing, [{"n": 0}], [])), False)
            self.assertIs(is_telling(FREE, TEXT, BOTH, TABLE, (BOTH, [{"n": 0}, thing], [])), False)
            self.assertIs(is_telling(FREE, TEXT, BOTH, TABLE, (BOTH, [{"n": 0}], thing)), thing == [] and
                          isinstance(thing, list))
            self.assertIs(is_telling(FREE, FREE, BOTH, TABLE, (BOTH, thing, [])), False)

    def test_answers_are_truths(self):
        self.assertIs(fits(TEXT, (NO, [], [])), True)
        self.assertIs(fits(TEXT, (NO, [], "errs")), False)


if __name__ == "__main__":
    unittest.main()
