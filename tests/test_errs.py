"""Point [53]: the words of conditions at rows, and whether some plan errs."""

import random
import unittest

from refusedahead.classes import class_rows
from refusedahead.errs import can_err, error_paper, erring_rows, is_error_paper, plan_for, word_at, words_at
from refusedahead.planners import Planner
from refusedahead.plans import is_plan, run, text_plan
from refusedahead.tables import Table
from refusedahead.texts import put_at
from tests.makers import always
from tests.planning import (
    SAYS, WORDS, all_places, big_conditions, chosen, folded, joined, make_frame, plain_planners, right_asked_by,
    right_count, right_planners, right_run)
from tests.test_classes import all_rows, fitting, make_table
from tests.things import any_things

SHARE, GUARD = ("asks", "n", (("over", 12),), ">", 3), ("asks", "n", (), "<>", 0)
BOTH, OTHER = ("all", (SHARE, GUARD)), ("all", (GUARD, SHARE))
TABLE = Table([("n", -5, 20, True, False)])
FREE, TEXT, EVERY = Planner("free"), Planner("text"), Planner("every")


def erring_frame(planner, condition, rows):
    """The rows at which some plan errs, by going through all plans."""
    return [row for row in rows if "error" in [right_run(planner, condition, plan, row)
                                               for plan in chosen(planner, condition)]]


class WordsTest(unittest.TestCase):

    def check(self, planner, condition, row):
        plans = chosen(planner, condition)
        said = [right_run(planner, condition, plan, row) for plan in plans]
        rights = {address: joined({right_asked_by(planner, condition, plan, row, address)[0] for plan in plans})
                  for address, _ in all_places(condition)}
        for _ in range(2):
            self.assertEqual(word_at(planner, condition, row), joined(set(said)))
            found = words_at(planner, condition, row)
            self.assertEqual(found, rights)
            self.assertEqual(list(found), sorted(rights))
            self.assertEqual({type(word[1]) for word in found.values()}, {bool})
            found.clear()
        for word in WORDS:
            self.check_plan(planner, condition, row, word, [plan for plan, one in zip(plans, said) if one == word])

    def check_plan(self, planner, condition, row, said, rights):
        for _ in range(2):
            found = plan_for(planner, condition, row, said)
            if not rights:
                self.assertIsNone(found)
                continue
            self.assertIn(found, rights)
            self.assertEqual(list(found), sorted(found))
            for order in found.values():
                order.append(9)
            found.clear()

    def test_frames(self):
        source = random.Random(101)
        for _ in range(120):
            frame = make_frame(source, 3, 24)
            for row in frame.rows(2):
                for planner in plain_planners():
                    self.check(planner, frame.condition, row)

    def test_many_plans(self):
        source = random.Random(102)
        seen = 0
        while seen < 6:
            frame = make_frame(source, 4, 720, always=0)
            if right_count(frame.condition) > 100:
                seen += 1
                for planner in (FREE, Planner("free", unknown=True)):
                    self.check(planner, frame.condition, frame.row())

    def test_beneath_and_early_mean_nothing(self):
        for planner in right_planners():
            plain = Planner(planner.mode, unknown=planner.unknown, folds=planner.folds)
            for value in (0, 2, 7, None):
                self.assertEqual(word_at(planner, BOTH, {"n": value}), word_at(plain, BOTH, {"n": value}))

    def test_told_row_changed_between(self):
        row, found = {"n": 0}, []
        for value in (0, 2, None, 0):
            row["n"] = value
            found.append((word_at(FREE, BOTH, row), words_at(TEXT, BOTH, row)[(0,)], plan_for(FREE, BOTH, row, "no")))
        zero = (("no", True), (None, True), {(): [1, 0]})
        self.assertEqual(found, [
            zero, (("yes", False), ("yes", False), None), (("unknown", False), ("unknown", False), None), zero])

    def test_words_are_without_folds(self):
        condition = ("all", (GUARD, always("error")))
        for mode, right in (("free", ("no", True)), ("text", ("no", False)), ("every", (None, True))):
            planner = Planner(mode, folds=True)
            self.assertEqual(word_at(planner, condition, {"n": 0}), (None, True))
            self.assertEqual(words_at(planner, condition, {"n": 0}),
                             {(): right, (0,): ("no", False), (1,): (None, True)})
            self.assertEqual([plan_for(planner, condition, {"n": 0}, said) is None for said in WORDS],
                             [True, True, True, False])


class TwelveLeavesTest(unittest.TestCase):

    def check_answers(self, planner, condition, row):
        word = word_at(planner, condition, row)
        answers = (["error"] if word[1] else []) + ([] if word[0] is None else [word[0]])
        for said in WORDS:
            plan = plan_for(planner, condition, row, said)
            if said in answers:
                self.assertIs(is_plan(condition, plan), True)
                self.assertEqual(right_run(planner, condition, plan, row), said)
                self.assertEqual(run(planner, condition, plan, row), said)
            else:
                self.assertIsNone(plan)
        return word

    def random_word(self, source, planner, condition, row):
        """What some plans at random answer."""
        found = set()
        for _ in range(12):
            plan = text_plan(condition)
            for order in plan.values():
                source.shuffle(order)
            found.add(right_run(planner, condition, plan, row))
        return found

    def test_by_plans_at_random(self):
        source = random.Random(103)
        for condition in big_conditions():
            for _ in range(25):
                row = {name: SAYS[source.choices(WORDS, (3, 2, 4, 1))[0]] for name in "abcdefghijkl"}
                for planner in plain_planners():
                    value, errs = self.check_answers(planner, condition, row)
                    if planner.mode == "free":
                        for said in self.random_word(source, planner, condition, row):
                            self.assertTrue(errs if said == "error" else said == value)

    def test_one_leaf_of_twelve_errs(self):
        wide, flat, _, _ = big_conditions()
        row = {name: SAYS["yes"] for name in "abcdefghijkl"}
        self.assertEqual([word_at(FREE, condition, row) for condition in (wide, flat)], [("yes", False)] * 2)
        row["d"] = SAYS["error"]
        self.assertEqual([word_at(FREE, condition, row) for condition in (wide, flat)], [("yes", True)] * 2)
        row["j"] = SAYS["error"]
        self.assertEqual([word_at(FREE, condition, row) for condition in (wide, flat)], [(None, True)] * 2)
        row["c"] = SAYS["no"]
        self.assertEqual(word_at(FREE, wide, row), (None, True))
        row["i"] = SAYS["no"]
        self.assertEqual([word_at(FREE, condition, row) for condition in (wide, flat)], [("no", True)] * 2)

    def test_four_hundred_classes(self):
        condition = big_conditions()[1]
        for name in "efghijkl":
            address = [at for at, part in all_places(condition) if part[0] == "asks" and part[1] == name][0]
            condition = put_at(condition, address, ("always", "no"))
        table = Table([(name, 0, 2, True, False) for name in "abcd"])
        rows = class_rows(table, [condition])
        self.assertEqual(len(rows), 256)
        for planner in (FREE, TEXT, EVERY):
            found = erring_rows(planner, table, condition)
            self.assertEqual(found, [row for row in rows if word_at(planner, condition, row)[1]])
            self.assertIs(is_error_paper(planner, table, condition, error_paper(planner, table, condition)), True)


class TableTest(unittest.TestCase):

    def check(self, planner, table, condition):
        rows = class_rows(table, [condition])
        erring = rows if folded(planner, condition) else erring_frame(planner, condition, rows)
        right = folded(planner, condition) or len(erring) > 0
        for _ in range(2):
            found = erring_rows(planner, table, condition)
            self.assertEqual(found, erring)
            for row in found:
                row["zz"] = 1
            self.assertIs(can_err(planner, table, condition), right)
            paper = error_paper(planner, table, condition)
            if not right:
                self.assertIsNone(paper)
                continue
            self.check_paper(planner, table, condition, paper)
        return right

    def check_paper(self, planner, table, condition, paper):
        self.assertIs(is_error_paper(planner, table, condition, paper), True)
        contents, plan = paper
        self.assertIs(type(paper), tuple)
        self.assertIs(type(contents), list)
        self.assertLessEqual(len(contents), 1)
        self.assertEqual([table.has_row(row) for row in contents], [True] * len(contents))
        self.assertIn(plan, chosen(planner, condition))
        if not folded(planner, condition):
            self.assertEqual([right_run(planner, condition, plan, row) for row in contents], ["error"])
        for row in contents:
            row.clear()
        plan.clear()
        contents.clear()

    def test_small_tables(self):
        source = random.Random(104)
        seen = set()
        for _ in range(120):
            table = make_table(source)
            condition = fitting(source, table)
            rows = all_rows(table)
            if right_count(condition) > 12 or len(rows) > 80:
                continue
            for planner in plain_planners():
                right = self.check(planner, table, condition)
                # At all rows of the table, not at those of the classes alone.
                errs = folded(planner, condition) or len(erring_frame(planner, condition, rows)) > 0
                self.assertIs(right, errs)
                seen.add((planner.mode, right))
        self.assertEqual(len(seen), 6)

    def test_a_table_without_rows(self):
        table = Table([("n", 0, 0, False, False)], [("asks", "n", (("over", 1),), ">", 0)])
        self.assertEqual(class_rows(table, [BOTH]), [])
        for planner in plain_planners():
            self.assertEqual([can_err(planner, table, BOTH), erring_rows(planner, table, BOTH),
                              error_paper(planner, table, BOTH)], [False, [], None])
            errs = ("any", (GUARD, always("error")))
            self.assertIs(can_err(planner, table, errs), planner.folds)
            self.assertEqual(erring_rows(planner, table, errs), [])
            if planner.folds:
                self.check_paper(planner, table, errs, error_paper(planner, table, errs))
            else:
                self.assertIsNone(error_paper(planner, table, errs))

    def test_a_table_without_columns(self):
        for word in WORDS:
            for planner in plain_planners():
                self.assertEqual(erring_rows(planner, Table([]), always(word)), [{}] if word == "error" else [])
                self.assertIs(can_err(planner, Table([]), always(word)), word == "error")

    def test_folds_at_no_row(self):
        condition = ("all", (always("no"), always("error")))
        for mode in ("every", "free", "text"):
            planner = Planner(mode, folds=True)
            self.assertIs(can_err(planner, TABLE, condition), True)
            self.assertEqual(erring_rows(planner, TABLE, condition), [{"n": None}])
            self.assertIs(is_error_paper(planner, TABLE, condition, ([], {(): [0, 1]})), True)
            self.assertIs(is_error_paper(planner, TABLE, condition, ([{"n": 4}], {(): [0, 1]})), True)
        self.assertEqual([can_err(TEXT, TABLE, condition), can_err(FREE, TABLE, condition)], [False, True])

    def test_is_error_paper(self):
        row, plan = {"n": 0}, {(): [0, 1]}
        self.assertIs(is_error_paper(FREE, TABLE, BOTH, ([row], plan)), True)
        self.assertIs(is_error_paper(TEXT, TABLE, BOTH, ([row], plan)), True)
        self.assertIs(is_error_paper(EVERY, TABLE, OTHER, ([row], plan)), True)
        self.assertIs(is_error_paper(FREE, TABLE, OTHER, ([row], {(): [1, 0]})), True)
        wrong = [
            ([row, row], plan), ([], plan), ([{"n": 2}], plan), ([row], {(): [1, 0]}), [[row], plan], ((row,), plan),
            ([row],), ([row], plan, 1), (row, plan), ([row], None), ([row], {}), ([row], [[0, 1]]),
            ([row], {(): (0, 1)}), ([{"n": False}], plan), ([{"n": 21}], plan), ([{"n": 0, "m": 1}], plan), ([{}], plan),
            ([None], plan), (None, plan), ([{"m": 0}], plan), ([row], {(): [0, 1], (0,): []}), ({0: row}, plan),
            ([row], {(): [False, True]}), ([row, {"n": 2}], plan), ([{"n": "a"}], plan),
        ]
        for thing in wrong + any_things():
            self.assertIs(is_error_paper(FREE, TABLE, BOTH, thing), False, str(thing)[:60])
        # By "text" and by "every" there is one plan alone.
        for planner in (TEXT, EVERY):
            self.assertIs(is_error_paper(planner, TABLE, BOTH, ([row], {(): [1, 0]})), False)
            self.assertIs(is_error_paper(planner, TABLE, OTHER, ([row], {(): [1, 0]})), False)
        self.assertIs(is_error_paper(TEXT, TABLE, OTHER, ([row], plan)), False)

    def test_is_error_paper_with_indexes(self):
        table = TABLE.with_index(("asks", "n", (("over", 1),), ">", 0))
        self.assertEqual([can_err(FREE, table, BOTH), error_paper(FREE, table, BOTH)], [False, None])
        self.assertIs(is_error_paper(FREE, table, BOTH, ([{"n": 0}], {(): [0, 1]})), False)


if __name__ == "__main__":
    unittest.main()
