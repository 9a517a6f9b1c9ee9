"""Point [91]: terms, and what is shown of the rows that are kept."""

import random
import unittest

from refusedahead.errors import Errs
from refusedahead.planners import Planner
from refusedahead.shown import is_shown_paper, is_term, shown_can_err, shown_lists, shown_paper, term_value
from refusedahead.tables import Table
from tests.comparing import make_pair, table_for
from tests.planning import big_conditions, chosen, right_count, right_kept_by, right_planners
from tests.test_classes import all_rows
from tests.test_compared import BOTH, BOUND, CASE, ERROR, NO, SOME, TENS, YES
from tests.test_steps import SOME_STEPS, led_by_all
from tests.things import any_things

FREE, TEXT, EVERY = Planner("free"), Planner("text"), Planner("every")
EARLY = Planner("text", early=True)
TABLE = Table([("n", 0, 9, False, False)])
SIXTY, OVER = ("n", (("over", 60),)), (("over", 1),)


class Failed(Exception):
    """A term errs."""


def right_term(term, row):
    """What a term shows; raises Failed with the number or the word at which it errs."""
    name, steps = term
    if not steps or row[name] is None:
        return row[name]
    if isinstance(row[name], str):
        raise Failed(row[name])
    reached, at = led_by_all(steps, row[name])
    if reached is None:
        raise Failed(at)
    return reached


def right_lists(planner, condition, terms, plan, rows):
    kept = right_kept_by(planner, condition, plan, rows)
    if kept is None:
        return None
    asked = range(len(rows)) if planner.early else kept
    try:
        shown = {index: [right_term(term, rows[index]) for term in terms] for index in asked}
    except Failed:
        return None
    return [shown[index] for index in kept]


def make_terms(source, names):
    found = []
    for _ in range(source.choice((0, 1, 1, 2))):
        steps = tuple(source.choices(SOME_STEPS, k=source.choice((0, 1, 1, 2))))
        found.append((source.choice(names), steps))
    return found


def make_question(source):
    """A table, a condition that fits it, and terms."""
    names = "ab"[:source.choice((1, 2))]
    table = table_for(source, names, source.choice((0, 0, 0, 1)))
    if source.random() < 0.3:
        table = Table([column[:4] + (source.random() < 0.5,) for column in table.columns()], table.indexes())
    return table, make_pair(source, names)[0], make_terms(source, names)


class TermTest(unittest.TestCase):

    def test_is_term(self):
        right = [("n", ()), ("eightabc", ()), SIXTY, ("n", tuple(SOME_STEPS)), ("n", (("found", ()),))]
        for thing in right:
            self.assertIs(is_term(thing), True)
        for thing in any_things() + [
                ("n",), ("n", (), ()), ["n", ()], ("n", []), ("n", None), ("", ()), ("N", ()), (1, ()), (None, ()),
                ("n", ("over", 60)), ("n", (("over", True),)), ("n", (("times", 0),)), ("n", [("over", 60)]),
                (("n",), ()), ("ninechars", ()), ((), "n"), ("n", (("plus", BOUND + 1),)), {"n": ()}]:
            self.assertIs(is_term(thing), False, thing)

    def test_term_value(self):
        source = random.Random(241)
        for _ in range(400):
            term = make_terms(source, "n") or [("n", ())]
            row = {"n": source.choice((None, "a", "ten", source.randrange(-9, 10))), "m": 7}
            for _ in range(2):
                try:
                    right = right_term(term[0], row)
                except Failed as failed:
                    with self.assertRaises(Errs) as caught:
                        term_value(term[0], row)
                    self.assertEqual(caught.exception.number, failed.args[0])
                else:
                    self.assertEqual(term_value(term[0], row), right)

    def test_none_words_and_integers(self):
        for value in (None, 0, -7, "ten", 10 ** 60 - 1):
            self.assertEqual(term_value(("n", ()), {"n": value}), value)
        self.assertIs(term_value(SIXTY, {"n": None}), None)
        self.assertEqual(term_value(SIXTY, {"n": 7}), 8)
        for value, at in ((0, 0), ("ten", "ten")):
            with self.assertRaises(Errs) as caught:
                term_value(SIXTY, {"n": value})
            self.assertEqual(caught.exception.number, at)
        with self.assertRaises(Errs) as caught:
            term_value(("n", (("plus", 1), ("found", ((1, 2),)))), {"n": 4})
        self.assertEqual(caught.exception.number, 5)


class ListsTest(unittest.TestCase):

    def test_by_going_through_all_plans(self):
        source, seen = random.Random(242), []
        for _ in range(400):
            table, condition, terms = make_question(source)
            rows = [dict(source.choice(all_rows(table))) for _ in range(source.randrange(4)) if all_rows(table)]
            planner, kept = source.choice(right_planners()), [dict(row) for row in rows]
            for plan in chosen(planner, condition):
                right = right_lists(planner, condition, terms, plan, rows)
                for _ in range(2):
                    found = shown_lists(planner, condition, terms, plan, rows)
                    self.assertEqual(found, right, (planner.early, condition, terms, rows))
                    for shown in found or []:
                        shown.append(7)
                seen.append(found is None)
            self.assertEqual(rows, kept)
        self.assertGreater(min(seen.count(True), seen.count(False)), 100)

    def test_early(self):
        rows = [{"n": 0}, {"n": 5}, {"n": 7}]
        condition = ("asks", "n", (), ">", 4)
        self.assertEqual(shown_lists(TEXT, condition, [SIXTY, ("n", ())], {}, rows), [[12, 5], [8, 7]])
        self.assertIs(shown_lists(EARLY, condition, [SIXTY], {}, rows), None)
        self.assertEqual(shown_lists(EARLY, condition, [SIXTY], {}, rows[1:]), [[12], [8]])
        self.assertEqual(shown_lists(EARLY, NO, [SIXTY], {}, rows[1:]), [])
        self.assertIs(shown_lists(EARLY, NO, [SIXTY], {}, rows), None)
        self.assertIs(shown_lists(TEXT, YES, [SIXTY], {}, rows), None)

    def test_no_terms_and_no_rows(self):
        found = shown_lists(TEXT, SOME, [], {}, [{"n": 1}, {"n": 0}, {"n": 2}])
        self.assertEqual(found, [[], []])
        self.assertEqual(len({id(one) for one in found}), 2)
        for planner in (TEXT, EARLY):
            self.assertEqual(shown_lists(planner, SOME, [SIXTY], {}, []), [])

    def test_folds(self):
        condition, plan = ("any", (YES, ERROR)), {(): [0, 1]}
        for planner in (TEXT, EARLY):
            self.assertEqual(shown_lists(planner, condition, [], plan, [{"n": 1}]), [[]])
            self.assertIs(shown_lists(planner.with_truth("folds", True), condition, [], plan, []), None)


class CanErrTest(unittest.TestCase):

    def right(self, planner, table, condition, terms):
        return any(right_lists(planner, condition, terms, plan, rows) is None
                   for rows in [[]] + [[row] for row in all_rows(table)] for plan in chosen(planner, condition))

    def check(self, planner, table, condition, terms, right):
        kept = list(terms)
        for _ in range(2):
            told = (planner.mode, planner.early, table.columns(), condition, terms)
            self.assertIs(shown_can_err(planner, table, condition, terms), right, told)
            paper = shown_paper(planner, table, condition, terms)
            self.assertEqual(paper is not None, right)
            self.assertIs(is_shown_paper(planner, table, condition, terms, paper), right)
            if right:
                rows, plan = paper
                self.assertLessEqual(len(rows), 1)
                self.assertTrue(all(table.has_row(row) and list(row) == sorted(row) for row in rows))
                if right_count(condition) < 30:
                    self.assertIn(plan, chosen(planner, condition))
                self.assertEqual(list(plan), sorted(plan))
                self.assertIs(right_lists(planner, condition, terms, plan, rows), None)
                plan.clear()
                rows.clear()
        self.assertEqual(terms, kept)

    def test_by_all_rows_and_plans(self):
        source, seen, late = random.Random(243), [], 0
        for _ in range(500):
            table, condition, terms = make_question(source)
            planner = source.choice(right_planners())
            right = self.right(planner, table, condition, terms)
            self.check(planner, table, condition, terms, right)
            seen.append(right)
            late += right and not shown_can_err(planner.with_truth("early", False), table, condition, terms)
        self.assertGreater(min(seen.count(True), seen.count(False), 10 * late), 90)

    def test_one_integer_of_a_wide_column(self):
        table = Table([("n", -BOUND, BOUND, True, False), ("m", 0, 1, False, False)])
        terms = [("n", ()), ("n", (("plus", -987654321), ("over", 5)))]
        self.check(TEXT, table, ("asks", "n", (), ">", 0), terms, True)
        self.assertEqual(shown_paper(TEXT, table, ("asks", "n", (), ">", 0), terms)[0][0]["n"], 987654321)
        self.check(TEXT, table, ("asks", "n", (), "<>", 987654321), terms, False)
        self.check(EARLY, table, ("asks", "n", (), "<>", 987654321), terms, True)
        self.check(TEXT, table, ("all", (("asks", "n", (), ">", 0), ("asks", "m", (), ">", 1))), terms, False)
        self.check(EARLY, table, NO, terms, True)
        self.check(EARLY, table, NO, terms[:1], False)
        last = ("asks", "n", (("plus", -987654321), ("over", 1)), "=", 0)
        self.check(EARLY, table.with_index(last), NO, terms, False)

    def test_words(self):
        table = Table([("n", 1, 9, True, True)])
        for condition, late, early in ((YES, True, True), (("number", "n"), False, True), (("empty", "n"), False, True),
                                       (("not", ("number", "n")), True, True)):
            self.check(TEXT, table, condition, [SIXTY], late)
            self.check(EARLY, table, condition, [SIXTY], early)
            self.check(EARLY, table, condition, [("n", ())], False)
        self.check(EARLY, table.with_index(TENS), YES, [SIXTY], False)

    def test_no_terms(self):
        for planner in (FREE, TEXT, EVERY, EARLY):
            self.check(planner, TABLE, SOME, [], False)
            self.check(planner, TABLE, BOTH, [], True)
            self.check(planner, TABLE, CASE, [], False)

    def test_folds_and_no_rows(self):
        table = Table([("n", 0, 0, False, False)], [TENS])
        for early in (False, True):
            self.check(Planner("free", early=early), table, ERROR, [SIXTY], False)
            self.check(Planner("free", folds=True, early=early), table, ERROR, [SIXTY], True)

    def test_what_one_plan_alone_keeps(self):
        condition = ("any", (TENS, ("asks", "n", (), "=", 0)))
        self.check(FREE, TABLE, condition, [SIXTY], True)
        self.check(FREE, TABLE.with_index(TENS), condition, [SIXTY], False)

    def test_far_more_plans(self):
        for condition in big_conditions():
            table = Table([(name, 1, 1, False, False) for name in "abcdefghijkl"] + [("n", 0, 2, False, False)])
            for planner in (FREE, TEXT, Planner("free", early=True)):
                self.check(planner, table, condition, [("n", ())], False)
                self.check(planner, table, condition, [("n", OVER)], planner.early or self.keeps(condition))

    def keeps(self, condition):
        row = {name: 1 for name in "abcdefghijkl"}
        return shown_lists(EVERY, condition, [], {}, [row]) == [[]]

    def test_asked_by_turns(self):
        questions = [(TEXT, SOME, [SIXTY]), (EARLY, SOME, [SIXTY]), (FREE, BOTH, []), (TEXT, CASE, [("n", ())])]
        right = [shown_can_err(planner, TABLE, condition, terms) for planner, condition, terms in questions]
        self.assertEqual(right, [False, True, True, False])
        for _ in range(2):
            for (planner, condition, terms), there in list(zip(questions, right))[::-1]:
                self.assertIs(shown_can_err(planner, TABLE, condition, terms), there)


class PaperTest(unittest.TestCase):

    def test_otherwise(self):
        self.assertIs(is_shown_paper(TEXT, TABLE, YES, [SIXTY], ([{"n": 0}], {})), True)
        self.assertIs(is_shown_paper(TEXT, TABLE, YES, [SIXTY], ([{"n": 3}] * 20 + [{"n": 0}], {})), True)
        for thing in (([{"n": 3}], {}), ([], {}), ([{"n": 10}], {}), ([{"n": False}], {}), ([{"n": None}], {}),
                      ([{"n": 0}], {(): []}), ([{"n": 0}], None), (({"n": 0},), {}), [[{"n": 0}], {}], ([{"n": 0}],),
                      ([{"n": 0}], {}, 0), ([{}], {}), ([{"n": 0}, {"m": 0}], {}), ({"n": 0}, {})):
            self.assertIs(is_shown_paper(TEXT, TABLE, YES, [SIXTY], thing), False, thing)

    def test_plans(self):
        paper = ([{"n": 0}], {(): [1, 0]})
        self.assertIs(is_shown_paper(FREE, TABLE, ("all", (SOME, TENS)), [], paper), True)
        self.assertIs(is_shown_paper(TEXT, TABLE, ("all", (SOME, TENS)), [], paper), False)
        for plan in ({(): [0, 1]}, {(): [True, 0]}, {(): (1, 0)}, {}, {(0,): [1, 0]}, {(): [1, 0], (0,): []}):
            self.assertIs(is_shown_paper(FREE, TABLE, ("all", (SOME, TENS)), [], ([{"n": 0}], plan)), False)

    def test_any_value(self):
        for thing in any_things():
            self.assertIs(is_shown_paper(TEXT, TABLE, YES, [SIXTY], thing), False)
            self.assertIs(is_shown_paper(TEXT, TABLE, YES, [SIXTY], (thing, {})), False)
            self.assertIs(is_shown_paper(TEXT, TABLE, YES, [SIXTY], ([{"n": 0}, thing], {})), False)
            self.assertIs(is_shown_paper(TEXT, TABLE, YES, [SIXTY], ([{"n": 0}], thing)), isinstance(thing, dict) and
                          thing == {})


if __name__ == "__main__":
    unittest.main()
