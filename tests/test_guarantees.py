"""Points [5] to [12]: what holds of all plans, orders, guards and ways, at small conditions and contents."""

import itertools
import random
import unittest

from refusedahead.contents import judged
from refusedahead.errs import can_err, plan_for, word_at
from refusedahead.guards import guards_for, is_guarded
from refusedahead.joins import join_can_err
from refusedahead.orders import first_order
from refusedahead.planners import Planner
from refusedahead.plans import run
from refusedahead.safe import greatest_lot, may_follow, safe_plan
from refusedahead.sevens import all_words
from refusedahead.shown import shown_can_err
from refusedahead.stuck import bar, rows_of
from tests.comparing import leaves_in, make_one, table_for
from tests.joining import make_asked, make_join, right_run_join, right_ways
from tests.planning import (
    all_places, chosen, joined, make_flat, make_frame, make_node, plain_planners, right_asked_by, right_count,
    right_kept_by, right_planners, right_plans, right_run, right_value, safe_plans)
from tests.test_classes import all_rows
from tests.test_joins import some_contents
from tests.test_shown import make_terms

FREE = Planner("free")


def some_frame(source):
    return make_node(source, 2, 24) if source.random() < 0.6 else make_frame(source, 3, 24)


class GuaranteesTest(unittest.TestCase):

    def test_5_one_value(self):
        source, several = random.Random(291), 0
        for _ in range(600):
            frame = some_frame(source)
            row = frame.row()
            for unknown in (False, True):
                planner = Planner("free", unknown=unknown)
                said = [right_run(planner, frame.condition, plan, row) for plan in right_plans(frame.condition)]
                values = set(said) - {"error"}
                several += len(said) > 1 and len(values) == 1
                if unknown:
                    self.assertIn(values - {"yes"}, (set(), values))
                else:
                    self.assertLessEqual(len(values), 1)
                for plan, right in zip(right_plans(frame.condition), said):
                    self.assertEqual(run(planner, frame.condition, plan, row), right)
        self.assertGreater(several, 100)

    def test_6_seven_words(self):
        source, seen = random.Random(292), set()
        for _ in range(600):
            frame = some_frame(source)
            row = frame.row()
            word = word_at(FREE, frame.condition, row)
            self.assertEqual(word, joined([right_run(FREE, frame.condition, plan, row)
                                           for plan in right_plans(frame.condition)]))
            seen.add(word)
            for said, there in ((word[0], word[0] is not None), ("error", word[1])):
                plan = plan_for(FREE, frame.condition, row, said) if there else None
                if there:
                    self.assertEqual(right_run(FREE, frame.condition, plan, row), said)
        self.assertEqual(seen, set(all_words()))

    def test_7_one_row(self):
        source, seen = random.Random(293), []
        for _ in range(300):
            names = "ab"[:source.choice((1, 2))]
            table, condition = table_for(source, names, source.randrange(2)), make_one(source, names)
            planner = source.choice(right_planners()).with_truth("folds", False)
            rows = all_rows(table)
            plans = chosen(planner, condition)
            at_one = any(right_run(planner, condition, plan, row) == "error" for row in rows for plan in plans)
            contents = [source.sample(rows, min(len(rows), source.randrange(4))) for _ in range(6)]
            at_some = any(right_kept_by(planner, condition, plan, lot) is None for lot in contents for plan in plans)
            self.assertIs(can_err(planner, table, condition), at_one)
            self.assertTrue(at_one or not at_some)
            seen.append(at_one)
        self.assertGreater(min(seen.count(True), seen.count(False)), 50)

    def lot_taken(self, source, condition, rows):
        """The parts that come to be taken, any that may follow being taken next."""
        lot = []
        while True:
            following = may_follow(FREE, condition, rows, lot)
            if not following:
                return sorted(lot)
            lot.append(source.choice(following))

    def test_8_never_going_back(self):
        source, stuck = random.Random(294), 0
        for _ in range(400):
            frame = make_node(source, 2, 24)
            rows = frame.rows(4, (3, 1, 3, 2))
            lot = greatest_lot(FREE, frame.condition, rows)
            for _ in range(3):
                self.assertEqual(self.lot_taken(source, frame.condition, rows), lot)
            every = len(lot) == len(frame.condition[1])
            self.assertIs(len(safe_plans(FREE, frame.condition, rows)) > 0, every)
            self.assertIs(safe_plan(FREE, frame.condition, rows) is not None, every)
            if every:
                continue
            stuck += 1
            few = [rows[index] for index in rows_of(bar(FREE, frame.condition, rows))]
            self.assertLessEqual(len(few), leaves_in(frame.condition))
            self.assertEqual(safe_plans(FREE, frame.condition, few), [])
        self.assertGreater(stuck, 50)

    def test_9_every_part(self):
        source, seen = random.Random(295), []
        for _ in range(600):
            frame = some_frame(source)
            row = frame.row()
            for unknown in (False, True):
                every, free = Planner("every", unknown=unknown), Planner("free", unknown=unknown)
                errs = right_run(every, frame.condition, {}, row) == "error"
                can = "error" in [right_run(free, frame.condition, plan, row) for plan in right_plans(frame.condition)]
                self.assertIs(errs, can)
                self.assertEqual([word_at(every, frame.condition, row)[1], word_at(free, frame.condition, row)[1]],
                                 [can, can])
                seen.append(errs)
        self.assertGreater(min(seen.count(True), seen.count(False)), 100)

    def tamer(self, planner):
        """The planners under which is sure what is so under this one."""
        found = [planner.with_truth(word, False) for word in ("folds", "beneath", "early")]
        found.append(planner.with_truth("unknown", True))
        return found + ([planner.with_mode("text"), planner.with_mode("every")] if planner.mode == "free" else [])

    def test_10_more_truths(self):
        source, sure = random.Random(296), 0
        for _ in range(400):
            frame = some_frame(source)
            rows = frame.rows(2, (4, 2, 4, 1))
            for planner in source.sample(plain_planners(), 4):
                errs = [right_kept_by(planner, frame.condition, plan, rows) is None
                        for plan in chosen(planner, frame.condition)]
                self.assertIs(judged(planner, frame.condition, rows) == "sure", not any(errs))
                for other in self.tamer(planner):
                    if not any(errs):
                        sure += 1
                        self.assertEqual(judged(other, frame.condition, rows), "sure")
        self.assertGreater(sure, 500)

    def test_10_more_truths_beneath_and_early(self):
        source, seen = random.Random(297), []
        for _ in range(150):
            join, names = make_join(source), "ab"[:source.choice((1, 2))]
            asked, table = make_asked(source, join, 6), table_for(source, names)
            condition, terms = make_one(source, names), make_terms(source, names)
            for planner in source.sample(right_planners(), 3):
                for other in self.tamer(planner):
                    if not join_can_err(planner, join, asked):
                        self.assertIs(join_can_err(other, join, asked), False)
                        seen.append("join")
                    if not shown_can_err(planner, table, condition, terms):
                        self.assertIs(shown_can_err(other, table, condition, terms), False)
                        seen.append("shown")
        self.assertGreater(min(seen.count("join"), seen.count("shown")), 100)

    def test_11_guards(self):
        source, seen = random.Random(298), []
        for _ in range(400):
            frame = make_flat(source)
            rows, many = frame.mild_rows(4), len(frame.condition[1])
            values = [[right_value(FREE, frame.condition, row, (part,)) for part in range(many)] for row in rows]
            decisive = {"all": "no", "any": "yes"}[frame.condition[0]]
            orders = [order for order in itertools.permutations(range(many))
                      if not any(self.errs_by(order, one, decisive) for one in values)]
            found = guards_for(FREE, frame.condition, rows)
            self.assertEqual(found is not None, len(orders) > 0)
            self.assertEqual(first_order(FREE, frame.condition, rows), list(orders[0]) if orders else None)
            if found is not None:
                self.assertIs(is_guarded(FREE, frame.condition, rows, found), True)
                keeping = [order for order in itertools.permutations(range(many))
                           if all(order.index(one) < order.index(other) for one, other in found)]
                self.assertTrue(keeping and set(keeping) <= set(orders))
            seen.append(found is None)
        self.assertGreater(min(seen.count(True), seen.count(False)), 50)

    def errs_by(self, order, values, decisive):
        """Whether a part with no value is asked ahead of one that decides."""
        for part in order:
            if values[part] in (None, decisive):
                return values[part] is None
        return False

    def test_12_joins(self):
        source, seen = random.Random(299), 0
        planner = Planner("free", unknown=True, beneath=True)
        for _ in range(500):
            join = make_join(source)
            condition, contents = make_asked(source, join, 12), some_contents(source, join)
            safe = [way for way in right_ways(planner, join, condition)
                    if right_run_join(planner, join, condition, way, contents) is not None]
            if any(lot for lot, _ in safe):
                seen += right_count(condition) > 1
                self.assertIn([], [lot for lot, _ in safe])
        self.assertGreater(seen, 50)

    def test_the_places_are_told_alike(self):
        # What the other tests go by: a part asked by itself answers as within the whole.
        source = random.Random(300)
        for _ in range(100):
            frame = some_frame(source)
            row = frame.row()
            for address, part in all_places(frame.condition):
                plan = {below[len(address):]: order for below, order in right_plans(frame.condition)[0].items()
                        if below[:len(address)] == address}
                self.assertEqual(right_asked_by(FREE, frame.condition, right_plans(frame.condition)[0], row, address)[0],
                                 right_run(FREE, part, plan, row))


if __name__ == "__main__":
    unittest.main()
