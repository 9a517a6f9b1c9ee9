"""Point [52]: plans, and what is asked by them."""

import itertools
import random
import unittest

from refusedahead.planners import Planner
from refusedahead.plans import all_plans, asked_by, is_plan, kept_by, plan_count, plans_by, run, text_plan
from tests.makers import always, make_condition
from tests.planning import (
    all_places, big_conditions, chosen, make_frame, plain_planners, right_asked_by, right_count, right_kept_by,
    right_planners, right_plans, right_run)
from tests.test_asks import SIGNS
from tests.things import any_things

SHARE, GUARD = ("asks", "n", (("over", 12),), ">", 3), ("asks", "n", (), "<>", 0)
BOTH = ("all", (SHARE, GUARD))
TWO = ("any", (BOTH, ("not", ("all", (SHARE, GUARD, SHARE)))))
ONE = ("all", (SHARE,))


class ListingTest(unittest.TestCase):

    def test_is_plan(self):
        for condition in (SHARE, BOTH, TWO, ONE, ("all", ()), ("first", (ONE, TWO))):
            for plan in right_plans(condition):
                self.assertIs(is_plan(condition, plan), True)
                turned = {address: list(plan[address]) for address in sorted(plan, reverse=True)}
                self.assertIs(is_plan(condition, turned), True)

    def test_is_no_plan(self):
        right = {(): [1, 0], (0,): [0, 1], (1, 0): [2, 0, 1]}
        self.assertIs(is_plan(TWO, right), True)
        for key, worths in (
                ((), ([0], [0, 1, 2], [0, 0], [1, 2], [], (0, 1), None, "01", 1, [True, False], [0, True], [False, 1],
                      ["0", "1"], [[0], [1]], [0, None], {0: 1, 1: 0}, [-1, 0], [1, 0, 0])),
                ((1, 0), ([0, 1], [0, 1, 1], [0, 1, 3], [2, 1], (2, 1, 0), [2, 1, 0, 3], [2, True, 0]))):
            for worth in worths:
                self.assertIs(is_plan(TWO, {**right, key: worth}), False, worth)
        for key in right:
            self.assertIs(is_plan(TWO, {at: order for at, order in right.items() if at != key}), False)
        for key in ((1,), (2,), (0, 0), "", None, 0, (None,), ("a",), ((),), (0, 0, 0), True):
            self.assertIs(is_plan(TWO, {**right, key: [0]}), False, key)
            self.assertIs(is_plan(TWO, {(): [1, 0], (0,): [0, 1], key: [2, 0, 1]}), False, key)
        for wrong in ({(): [1, 0], (False,): [0, 1], (1, 0): [2, 0, 1]}, {(): [1, 0], (0,): [0, 1], (True, 0): [0, 1, 2]},
                      [right], (right,), list(right.items()), {}, [[0, 1], [0, 1], [0, 1, 2]], "{}"):
            self.assertIs(is_plan(TWO, wrong), False, wrong)

    def test_any_value(self):
        for thing in any_things():
            for condition in (BOTH, TWO, ("all", ())):
                self.assertIs(is_plan(condition, thing), False, str(thing)[:60])
            self.assertIs(is_plan(SHARE, thing), thing == {} and isinstance(thing, dict))
        self.assertIs(is_plan(("all", ()), {(): []}), True)

    def test_all_plans_of_some(self):
        self.assertEqual(all_plans(SHARE), [{}])
        self.assertEqual(all_plans(("not", always("yes"))), [{}])
        self.assertEqual(all_plans(("any", ())), [{(): []}])
        self.assertEqual(all_plans(("case", ((ONE, BOTH),), SHARE)),
                         [{(0,): [0], (1,): [0, 1]}, {(0,): [0], (1,): [1, 0]}])

    def test_all_plans(self):
        source = random.Random(91)
        for _ in range(150):
            condition = make_condition(source, ("n", "m"), 3)
            right = right_count(condition)
            self.assertEqual(plan_count(condition), right)
            plan = {address: list(range(len(part[1])))
                    for address, part in all_places(condition) if part[0] in ("all", "any")}
            self.assertEqual(text_plan(condition), plan)
            if right <= 720:
                self.check_all(condition)

    def check_all(self, condition):
        rights = right_plans(condition)
        for _ in range(2):
            found = all_plans(condition)
            self.assertEqual(found, rights)
            for plan in found:
                self.assertEqual(list(plan), sorted(plan))
            every = [order for plan in found for order in plan.values()]
            self.assertEqual(len({id(order) for order in every}), len(every))
            for order in every:
                order.append(7)
            for plan in found:
                plan[(9,)] = []
            found.clear()
        self.assertEqual(text_plan(condition), rights[0])
        text_plan(condition).clear()
        for planner in right_planners()[::5]:
            for _ in range(2):
                found = plans_by(planner, condition)
                self.assertEqual(found, chosen(planner, condition))
                found.pop()

    def test_plans_of_each_mode(self):
        self.assertEqual([plans_by(Planner(mode), BOTH) for mode in ("every", "free", "text")],
                         [[{(): [0, 1]}], [{(): [0, 1]}, {(): [1, 0]}], [{(): [0, 1]}]])

    def test_seven_hundred_and_twenty(self):
        for condition in (("all", (SHARE,) * 6), ("any", (("all", (SHARE,) * 5), ("not", ("any", (SHARE,) * 3))))):
            right = right_plans(condition)
            self.assertEqual([all_plans(condition), plan_count(condition)], [right, len(right)])
        self.assertEqual(len(all_plans(("all", (SHARE,) * 6))), 720)

    def test_far_more(self):
        for condition in big_conditions():
            self.assertEqual(plan_count(condition), right_count(condition))
            plan = text_plan(condition)
            self.assertIs(is_plan(condition, plan), True)
            self.assertEqual([order == sorted(order) for order in plan.values()], [True] * len(plan))
            self.assertEqual(list(plan), sorted(plan))
        self.assertEqual(plan_count(("any", (("all", (SHARE,) * 6),) * 2)), 2 * 720 * 720)


class AskingTest(unittest.TestCase):

    def check(self, planner, condition, plan, row):
        said, trail = right_asked_by(planner, condition, plan, row)
        for _ in range(2):
            self.assertEqual(run(planner, condition, plan, row), right_run(planner, condition, plan, row))
            found = asked_by(planner, condition, plan, row)
            self.assertEqual(found, trail, (condition, plan, row))
            found.clear()
        self.assertEqual("error" in [word for _, word in trail], said == "error")

    def check_all(self, condition, rows):
        for planner in plain_planners():
            for plan in chosen(planner, condition):
                for row in rows:
                    self.check(planner, condition, plan, row)
                right = right_kept_by(planner, condition, plan, rows)
                for _ in range(2):
                    found = kept_by(planner, condition, plan, rows)
                    self.assertEqual(found, right)
                    if found is not None:
                        found.append(None)

    def test_frames(self):
        source = random.Random(92)
        for _ in range(130):
            frame = make_frame(source, 3, 12)
            self.check_all(frame.condition, frame.rows(3))

    def test_tests_and_values(self):
        source = random.Random(93)
        for _ in range(100):
            condition = make_condition(source, ("n", "m"), 3)
            if right_count(condition) <= 6:
                rows = [{"n": source.choice((None, 0, 1, 3, "a")), "m": source.choice((2, -1, None))} for _ in range(3)]
                self.check_all(condition, rows)

    def test_all_pairs_of_answers(self):
        words = [always(word) for word in ("yes", "no", "unknown", "error")]
        for one, other, third in itertools.product(words, repeat=3):
            self.check_all(("all", (one, other)), [{}])
            self.check_all(("not", ("any", (one, other))), [{}])
            self.check_all(("case", ((one, other),), third), [{}, {}])
            self.check_all(("first", (one, ("any", (other, third)))), [])

    def test_every_asks_all_parts(self):
        every, row = Planner("every"), {"n": 0}
        self.assertEqual(run(every, ("all", (GUARD, SHARE)), {(): [0, 1]}, row), "error")
        self.assertEqual(asked_by(every, ("all", (GUARD, SHARE)), {(): [0, 1]}, row), [((0,), "no"), ((1,), "error")])
        self.assertEqual(asked_by(every, ("any", (always("yes"), always("no"))), {(): [0, 1]}, {}),
                         [((0,), "yes"), ((1,), "no")])
        self.assertEqual(run(every, ("any", (always("unknown"), always("yes"), always("no"))), {(): [0, 1, 2]}, {}), "yes")
        # Cases and firsts go no further by "every".
        for condition in (("case", ((always("yes"), always("no")),), always("error")),
                          ("first", (always("no"), always("error")))):
            self.assertEqual(run(every, condition, {}, {}), "no")

    def test_orders_mean_nothing_by_every(self):
        every, row = Planner("every"), {"n": 0}
        self.assertEqual(asked_by(every, BOTH, {(): [1, 0]}, row), [((0,), "error")])
        self.assertEqual(asked_by(every, BOTH, {(): [1, 0]}, {"n": 2}), [((0,), "yes"), ((1,), "yes")])

    def test_unknown_at_plain_places(self):
        unknown, error = always("unknown"), always("error")
        for mode in ("free", "text"):
            planner = Planner(mode, unknown=True)
            plan = {(): [0, 1]}
            self.assertEqual(run(planner, ("all", (unknown, error)), plan, {}), "no")
            self.assertEqual(asked_by(planner, ("all", (unknown, error)), plan, {}), [((0,), "unknown")])
            self.assertEqual(run(planner, ("any", (unknown, error)), plan, {}), "error")
            self.assertEqual(run(planner, ("any", (unknown, unknown)), plan, {}), "no")
            self.assertEqual(run(planner, unknown, {}, {}), "no")
            # The part of a not and of a first is not plain, but each when is.
            self.assertEqual(run(planner, ("not", ("all", (unknown, error))), {(0,): [0, 1]}, {}), "error")
            self.assertEqual(run(planner, ("not", unknown), {}, {}), "no")
            self.assertEqual(run(planner, ("not", ("not", ("not", unknown))), {}, {}), "no")
            self.assertEqual(run(planner, ("first", (unknown, always("yes"))), {}, {}), "yes")
            case = ("case", ((("all", (unknown, error)), error),), always("yes"))
            self.assertEqual(run(planner, ("not", case), {(0, 0): [0, 1]}, {}), "no")
            self.assertEqual(run(planner, ("not", ("case", ((always("yes"), unknown),), error)), {}, {}), "no")

    def test_folds(self):
        for mode in ("every", "free", "text"):
            planner = Planner(mode, folds=True)
            for condition in (
                    always("error"), ("all", (always("no"), always("error"))), ("first", (always("yes"), always("error"))),
                    ("case", ((always("no"), always("error")),), always("yes")), ("not", ("any", (always("error"),))),
                    ("case", ((always("yes"), always("yes")),), ("not", always("error")))):
                plan = text_plan(condition)
                self.assertEqual([run(planner, condition, plan, {}), kept_by(planner, condition, plan, [])],
                                 ["error", None])
                self.assertEqual(asked_by(planner, condition, plan, {}), right_asked_by(planner, condition, plan, {})[1])
            self.assertEqual(run(planner, SHARE, {}, {"n": 0}), "error")
            self.assertEqual([kept_by(planner, SHARE, {}, []), kept_by(planner, SHARE, {}, [{"n": 0}])], [[], None])

    def test_no_rows(self):
        for planner in plain_planners():
            self.assertEqual(kept_by(planner, BOTH, {(): [0, 1]}, []), [])

    def test_told_things_changed_between(self):
        free, plan, row = Planner("free"), {(): [0, 1]}, {"n": 0}
        rows = [row]
        self.assertEqual([run(free, BOTH, plan, row), kept_by(free, BOTH, plan, rows)], ["error", None])
        plan[()].reverse()
        self.assertEqual([run(free, BOTH, plan, row), kept_by(free, BOTH, plan, rows)], ["no", []])
        row["n"] = 2
        rows.append({"n": 0})
        self.assertEqual([run(free, BOTH, plan, row), kept_by(free, BOTH, plan, rows)], ["yes", [0]])
        self.assertEqual([plan, rows], [{(): [1, 0]}, [{"n": 2}, {"n": 0}]])

    def test_beneath_and_early_mean_nothing(self):
        for planner in right_planners():
            plain = Planner(planner.mode, unknown=planner.unknown, folds=planner.folds)
            for plan in plans_by(planner, BOTH):
                for value in (0, 2, None):
                    row = {"n": value}
                    self.assertEqual(run(planner, BOTH, plan, row), run(plain, BOTH, plan, row))

    def test_each_sign(self):
        for sign, number in itertools.product(SIGNS, (0, 3)):
            test = ("asks", "n", (("over", 12),), sign, number)
            for value in (None, 0, 1, 4, "a"):
                self.check(Planner("free"), ("all", (test, GUARD)), {(): [1, 0]}, {"n": value})


if __name__ == "__main__":
    unittest.main()
