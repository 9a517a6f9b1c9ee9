"""Point [92]: whether some row is kept."""

import itertools
import random
import unittest

from refusedahead.planners import Planner
from refusedahead.sevens import answers_of
from refusedahead.some import is_some_paper, some_paper, some_run, some_word
from tests.planning import (
    SAYS, big_conditions, chosen, folded, joined, leaf, make_frame, make_node, right_planners, right_run)
from tests.test_compared import BOTH, ERROR, NO, SOME, TENS, YES, ring
from tests.things import any_things

FREE, TEXT, EVERY = Planner("free"), Planner("text"), Planner("every")
ANSWERS = ("error", "no", "unknown", "yes")


def right_some(planner, condition, plan, rows, order):
    """What is answered, row by row."""
    if folded(planner, condition):
        return "error"
    said = [right_run(planner, condition, plan, rows[index]) for index in order]
    for word in said:
        if word != "no" and word != "unknown":
            return word
    return "no"


def right_word(planner, condition, rows):
    """The word, by going through all plans and all orders."""
    said = [right_some(planner, condition, plan, rows, order)
            for plan in chosen(planner, condition) for order in itertools.permutations(range(len(rows)))]
    return joined(said)


class SomeTest(unittest.TestCase):

    def check_papers(self, planner, condition, rows, word):
        for said in ANSWERS:
            for _ in range(2):
                paper = some_paper(planner, condition, rows, said)
                self.assertEqual(paper is not None, said in answers_of(word), (condition, rows, said))
                self.assertIs(is_some_paper(planner, condition, rows, said, paper), paper is not None)
                if paper is None:
                    continue
                plan, order = paper
                self.assertEqual(list(plan), sorted(plan))
                self.assertEqual(sorted(order), list(range(len(rows))))
                self.assertEqual(right_some(planner, condition, plan, rows, order), said)
                self.assertEqual(some_run(planner, condition, plan, rows, order), said)
                for other in ANSWERS:
                    self.assertIs(is_some_paper(planner, condition, rows, other, paper), other == said)
                plan.clear()
                order.clear()

    def check(self, planner, condition, rows):
        kept = [dict(row) for row in rows]
        right = right_word(planner, condition, rows)
        for _ in range(2):
            self.assertEqual(some_word(planner, condition, rows), right, (planner.mode, condition, rows))
        self.check_papers(planner, condition, rows, right)
        self.assertEqual(rows, kept)
        return right

    def test_by_all_plans_and_orders(self):
        source, seen = random.Random(251), {}
        for _ in range(500):
            frame = make_node(source, 2, 12) if source.random() < 0.7 else make_frame(source, 3, 12)
            rows = frame.rows(3, (6, 2, source.choice((1, 4)), 1))
            word = self.check(source.choice(right_planners() + [FREE] * 30), frame.condition, rows)
            seen[word] = seen.get(word, 0) + 1
        self.assertEqual(set(seen), {("no", False), ("no", True), ("yes", False), ("yes", True), (None, True)})
        self.assertGreater(min(seen.values()), 4)

    def test_some_run(self):
        source = random.Random(252)
        for planner in right_planners() * 8:
            frame = make_frame(source, 2, 24)
            rows = frame.rows(4)
            for plan in chosen(planner, frame.condition)[:6]:
                order = source.sample(range(len(rows)), len(rows))
                kept = list(order)
                self.assertEqual(some_run(planner, frame.condition, plan, rows, order),
                                 right_some(planner, frame.condition, plan, rows, order))
                self.assertEqual(order, kept)

    def test_no_rows(self):
        for planner in right_planners():
            for condition in (YES, NO, ERROR, BOTH, ("any", (YES, ERROR))):
                self.check(planner, condition, [])
            self.assertEqual(some_run(planner, ERROR, {}, [], []), "error" if planner.folds else "no")

    def test_the_order_matters(self):
        rows = [{"n": 0}, {"n": 2}]
        self.assertEqual([some_run(TEXT, TENS, {}, rows, order) for order in ([0, 1], [1, 0])], ["error", "yes"])
        self.assertEqual(self.check(TEXT, TENS, rows), ("yes", True))
        self.assertEqual(self.check(TEXT, TENS, rows[:1]), (None, True))
        self.assertEqual(self.check(TEXT, TENS, [{"n": 9}, {"n": 0}]), (None, True))
        self.assertEqual(self.check(TEXT, SOME, [{"n": 0}] * 3), ("no", False))

    def test_one_plan_serves_all_rows(self):
        condition, rows = ring("abc")
        # At each row alone some order answers no, for all of them none does.
        for row in rows:
            self.assertEqual(self.check(FREE, condition, [row]), ("no", True))
        self.assertEqual(self.check(FREE, condition, rows), (None, True))
        self.assertEqual(self.check(FREE, condition, rows[1:]), ("no", True))
        self.assertEqual(self.check(FREE, condition, rows + [{"a": 1, "b": 1, "c": 1}]), ("yes", True))

    def test_unknown(self):
        for planner in right_planners():
            self.check(planner, SOME, [{"n": None}, {"n": 0}])
            self.assertEqual(some_word(planner, SOME, [{"n": None}]), ("no", False))
            self.assertIs(some_paper(planner, SOME, [{"n": None}], "unknown"), None)

    def test_far_more_plans_and_twelve_rows(self):
        source, seen = random.Random(253), set()
        for condition in big_conditions():
            for planner in (FREE, Planner("free", unknown=True), TEXT, EVERY):
                for weights in ((8, 1, 8, 0), (20, 1, 20, 1), (6, 1, 30, 1), (30, 1, 6, 1)):
                    rows = [{name: SAYS[source.choices(("no", "unknown", "yes", "error"), weights)[0]]
                             for name in "abcdefghijkl"} for _ in range(12)]
                    word = some_word(planner, condition, rows)
                    self.check_papers(planner, condition, rows, word)
                    seen.add(word)
        self.assertGreater(len(seen), 2)

    def test_far_more_plans_that_one_has_to_serve(self):
        names = "abcdef"
        condition, rows = ring(names)
        rows = rows * 2
        self.assertEqual([some_word(FREE, condition, rows), some_word(FREE, condition, rows[1:6])],
                         [(None, True), ("no", True)])
        self.check_papers(FREE, condition, rows, (None, True))
        self.check_papers(FREE, condition, rows[1:6], ("no", True))


class PaperTest(unittest.TestCase):

    def test_otherwise(self):
        rows, right = [{"n": 0}, {"n": 1}], ({(): [1, 0]}, [1, 0])
        self.assertIs(is_some_paper(FREE, BOTH, rows, "yes", right), True)
        self.assertIs(is_some_paper(FREE, BOTH, rows, "yes", ({(): [0, 1]}, [1, 0])), True)
        self.assertIs(is_some_paper(TEXT, BOTH, rows, "yes", right), False)
        self.assertIs(is_some_paper(FREE, BOTH, rows, "error", ({(): [0, 1]}, [0, 1])), True)
        for thing in (({(): [1, 0]}, [0]), ({(): [1, 0]}, (1, 0)), ({(): [1, 0]}, [True, False]), ({}, [1, 0]),
                      ({(): [1, 0]}, [1, 0, 1]), ({(): [1, 0]}, [1, 1]), ({(): [1, 0]}, [0, -1]), list(right),
                      right + (0,), right[:1], ({(): (1, 0)}, [1, 0]), ({(): [1, 0], (0,): []}, [1, 0]),
                      ({(): [1, False]}, [1, 0]), ([1, 0], {(): [1, 0]}), ({(): [0, 1]}, [0, 1])):
            self.assertIs(is_some_paper(FREE, BOTH, rows, "yes", thing), False, thing)

    def test_any_value(self):
        rows = [{"n": 0}, {"n": 1}]
        for thing in any_things():
            for paper in (thing, (thing, [1, 0]), ({(): [1, 0]}, thing), ({(): thing}, [1, 0])):
                self.assertIs(is_some_paper(FREE, BOTH, rows, "yes", paper), False)
        self.assertIs(is_some_paper(FREE, leaf("a"), [], "no", ({}, [])), True)


if __name__ == "__main__":
    unittest.main()
