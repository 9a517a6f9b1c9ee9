"""Point [62]: what a planner makes of contents."""

import random
import unittest

from refusedahead.contents import hard_rows, judged, kept_rows, strength
from refusedahead.planners import Planner
from refusedahead.tables import Table
from tests.makers import always
from tests.planning import (
    LEAVES, SAYS, Frame, all_places, all_said, big_conditions, chosen, folded, make_frame, plain_planners, right_count,
    right_kept_by, right_planners, right_run)
from tests.test_asks import SIGNS
from tests.test_classes import all_rows, fitting, make_table

BOUND = 10 ** 12
SOME, TENS = ("asks", "n", (), "<>", 0), ("asks", "n", (("over", 10),), ">", 3)
BOTH, ROWS = ("all", (TENS, SOME)), [{"n": 0}, {"n": 2}]
FREE, TEXT, EVERY = Planner("free"), Planner("text"), Planner("every")


def right_judged(planner, condition, rows):
    """The word of contents and the rows that are kept, by going through all plans."""
    found = [right_kept_by(planner, condition, plan, rows) for plan in chosen(planner, condition)]
    right = [kept for kept in found if kept is not None]
    if not right:
        return "never", None
    return "sure" if len(right) == len(found) else "hangs", right[0]


class JudgedTest(unittest.TestCase):

    def check(self, planner, condition, rows):
        word, kept = right_judged(planner, condition, rows)
        told = [dict(row) for row in rows]
        for _ in range(2):
            self.assertEqual(judged(planner, condition, rows), word)
            found = kept_rows(planner, condition, rows)
            self.assertEqual(found, kept)
            self.assertEqual(rows, told)
            if found is not None:
                found.append(9)
        return planner.mode, word

    def test_frames(self):
        source, seen = random.Random(131), set()
        for _ in range(250):
            frame = make_frame(source, 3, 24)
            rows = frame.rows(4, source.choice(((3, 1, 3, 1), (4, 0, 4, 1), (3, 2, 3, 2))))
            for planner in plain_planners():
                seen.add(self.check(planner, frame.condition, rows))
        self.assertEqual(len(seen), 7)

    def test_no_rows(self):
        source = random.Random(132)
        for _ in range(60):
            condition = make_frame(source, 3, 24, always=0.4).condition
            for planner in plain_planners():
                errs = folded(planner, condition)
                self.assertEqual(judged(planner, condition, []), "never" if errs else "sure")
                self.assertEqual(kept_rows(planner, condition, []), None if errs else [])

    def test_equal_rows(self):
        for many in (1, 2, 400):
            rows = [{"n": 0}] * many
            self.assertEqual([judged(planner, BOTH, rows) for planner in (FREE, TEXT, EVERY)],
                             ["hangs", "never", "never"])
            self.assertEqual(kept_rows(FREE, BOTH, rows), [])
            self.assertEqual(kept_rows(FREE, BOTH, [{"n": 1}] * many), list(range(many)))

    def test_four_hundred_rows(self):
        source = random.Random(133)
        for weights in ((1, 1, 9, 0), (30, 2, 60, 1), (1, 0, 0, 0)):
            frame = make_frame(source, 3, 6, always=0)
            rows = [frame.row(weights) for _ in range(400)]
            for planner in plain_planners():
                self.check(planner, frame.condition, rows)

    def test_far_more_plans(self):
        source = random.Random(134)
        for condition in big_conditions():
            row = {name: SAYS["yes"] for name in "abcdefghijkl"}
            rows = [dict(row) for _ in range(400)]
            said = right_run(TEXT, condition, self.first(condition), row)
            kept = list(range(400)) if said == "yes" else []
            for planner in (FREE, TEXT, EVERY):
                self.assertEqual([judged(planner, condition, rows), kept_rows(planner, condition, rows)], ["sure", kept])
            for index in source.sample(range(400), 3):
                rows[index] = {name: SAYS["error"] for name in row}
                for planner in (FREE, TEXT, EVERY):
                    self.assertEqual([judged(planner, condition, rows), kept_rows(planner, condition, rows)],
                                     ["never", None])

    def first(self, condition):
        """The plan in the order of the text."""
        return {address: list(range(len(part[1]))) for address, part in all_places(condition)
                if part[0] in ("all", "any")}

    def test_more_truths(self):
        # Point [10]: what is sure under a planner is so without FOLDS, with UNKNOWN, and by "text" and "every".
        source, sure = random.Random(135), 0
        for _ in range(300):
            frame = make_frame(source, 3, 24)
            rows = frame.rows(2, (3, 1, 3, 1))
            for planner in right_planners():
                if judged(planner, frame.condition, rows) == "sure":
                    sure += 1
                    others = [planner.with_truth("unknown", True)]
                    others += [planner.with_truth(word, False) for word in ("folds", "beneath", "early")]
                    if planner.mode == "free":
                        others += [planner.with_mode("text"), planner.with_mode("every")]
                    for other in others:
                        self.assertEqual(judged(other, frame.condition, rows), "sure")
                # Point [9]: "every" errs where "free" can.
                if planner.mode == "every":
                    words = {judged(planner, frame.condition, [row]) == "sure" for row in rows}
                    frees = {judged(planner.with_mode("free"), frame.condition, [row]) == "sure" for row in rows}
                    self.assertEqual(words, frees)
        self.assertGreater(sure, 500)

    def test_told_rows_changed_between(self):
        rows = [{"n": 2}]
        self.assertEqual([judged(TEXT, BOTH, rows), kept_rows(TEXT, BOTH, rows)], ["sure", [0]])
        rows.append({"n": 0})
        self.assertEqual([judged(TEXT, BOTH, rows), kept_rows(TEXT, BOTH, rows)], ["never", None])
        self.assertEqual([judged(FREE, BOTH, rows), kept_rows(FREE, BOTH, rows)], ["hangs", [0]])


def right_strength(planner, condition, rows):
    """How far a condition is safe, by going through all rows and plans."""
    if folded(planner, condition):
        return "never"
    found = [said for _, said in all_said(planner, condition, rows)]
    if "error" not in [word for said in found for word in said]:
        return "sure"
    if [said for said in found if "error" not in said]:
        return "safe"
    each = [{said[index] for said in found} != {"error"} for index in range(len(rows))]
    return "each" if all(each) else "never"


class Patterns(Frame):
    """A Frame whose leaves all ask one column, each with other answers at the same values."""

    def leaf(self):
        goals = [(value, self.source.choice((0, 1))) for value in range(4) if self.source.random() < 0.7]
        return ("asks", "n", (("found", tuple(goals)),), "=", 1)


def make_patterns(source):
    """Patterns of at most twelve plans."""
    while True:
        found = Patterns(source, 3, always=0)
        if right_count(found.condition) <= 12:
            return found.condition


class StrengthTest(unittest.TestCase):

    def check(self, planner, table, condition, rows):
        right = right_strength(planner, condition, rows)
        for _ in range(2):
            self.assertEqual(strength(planner, condition, table), right)
            found = hard_rows(planner, condition, table)
            if right in ("sure", "safe"):
                self.assertIsNone(found)
                continue
            self.check_hard(planner, table, condition, found)
        return planner.mode, right

    def check_hard(self, planner, table, condition, found):
        leaves = [part for _, part in all_places(condition) if part[0] in LEAVES]
        self.assertIs(type(found), list)
        self.assertLessEqual(len(found), len(leaves))
        for row in found:
            self.assertIs(table.has_row(row), True)
            self.assertEqual(list(row), table.names())
        for plan in chosen(planner, condition):
            self.assertIsNone(right_kept_by(planner, condition, plan, found))
        for row in found:
            row.clear()
        found.clear()

    def test_small_tables(self):
        source, seen = random.Random(136), set()
        for _ in range(300):
            table = make_table(source)
            condition = fitting(source, table)
            rows = all_rows(table)
            if right_count(condition) <= 12 and len(rows) <= 80:
                for planner in plain_planners():
                    seen.add(self.check(planner, table, condition, rows))
        self.assertLessEqual({(mode, word) for mode in ("every", "free", "text") for word in ("sure", "never")}, seen)
        self.assertIn(("free", "safe"), seen)

    def test_patterns(self):
        source, seen = random.Random(137), set()
        for _ in range(400):
            condition = make_patterns(source)
            high = source.randrange(1, 4)
            table = Table([("n", 0, high, source.random() < 0.3, False)])
            rows = all_rows(table)
            for planner in plain_planners():
                seen.add(self.check(planner, table, condition, rows))
        self.assertEqual(seen, {(mode, word) for mode in ("every", "text") for word in ("sure", "never")}
                         | {("free", word) for word in ("sure", "safe", "each", "never")})

    def wide_rows(self):
        """Rows of one wide column, near 0 all of them and some far out; there the answers stay."""
        numbers = list(range(-60, 61)) + [-BOUND, BOUND, 1 - BOUND, BOUND - 1, -5000, 5000]
        return [{"n": value} for value in [None, "a", "ten"] + numbers]

    def make_wide(self, source, levels):
        """A condition of tests of one column that go on alike far out."""
        kind = source.choice(("all", "any", "not", "case", "first", "test", "test"))
        if kind == "test" or levels == 0:
            steps = source.choice(((), (("over", source.randrange(-12, 13)),), (("plus", 3), ("over", 7)),
                                   (("found", ((-3, 5), (0, 0), (2, -4))),), (("times", -2),), (("into", 5),)))
            return source.choice((("asks", "n", steps, source.choice(SIGNS), source.randrange(-4, 5)),) * 5
                                 + (("empty", "n"), ("number", "n")))
        parts = [self.make_wide(source, levels - 1) for _ in range(source.choice((1, 2, 2, 3)))]
        if kind == "not":
            return ("not", parts[0])
        if kind == "case":
            return ("case", ((parts[0], parts[-1]),), self.make_wide(source, levels - 1))
        return (kind, tuple(parts))

    def test_wide_tables(self):
        source, seen = random.Random(138), set()
        rows = self.wide_rows()
        for _ in range(120):
            condition = self.make_wide(source, 2)
            if right_count(condition) > 6:
                continue
            indexes = [("asks", "n", (("over", 1),), ">", 0)] if source.random() < 0.4 else []
            empty, words = source.random() < 0.5, source.random() < 0.2
            table = Table([("n", -BOUND, BOUND, empty, words)], indexes)
            some = [row for row in rows if table.has_row(row)]
            for planner in source.sample(plain_planners(), 4):
                seen.add(self.check(planner, table, condition, some)[1])
        self.assertLessEqual({"sure", "safe", "never"}, seen)

    def test_the_widest_table(self):
        table = Table([(name, -BOUND, BOUND, True, True) for name in "klmn"])
        guards = tuple([("number", name) for name in "klmn"])
        condition = ("all", guards + (("asks", "n", (("over", 10),), ">", 3), SOME))
        # A word errs at the division unless the guard is asked, a 0 unless the last part is.
        self.assertEqual([strength(planner, condition, table) for planner in (FREE, TEXT, EVERY)],
                         ["safe", "never", "never"])
        self.check_hard(TEXT, table, condition, hard_rows(TEXT, condition, table))
        self.assertIsNone(hard_rows(FREE, condition, table))

    def test_each(self):
        one, two = ("asks", "n", (("over", 1),), "=", 1), ("asks", "n", (("plus", -1), ("over", 1)), "=", 5)
        pair = Table([("n", 0, 1, False, False)])
        # At 0 the first one errs and the second one says no; at 1 it is the other way about.
        condition = ("all", (("not", one), two))
        self.assertEqual([strength(planner, condition, pair) for planner in (FREE, TEXT, EVERY)],
                         ["each", "never", "never"])
        self.assertEqual(hard_rows(FREE, condition, pair), [{"n": 0}, {"n": 1}])
        wide = Table([("n", -BOUND, BOUND, False, False)])
        self.assertEqual(strength(FREE, condition, wide), "each")
        self.assertEqual(hard_rows(FREE, condition, wide), [{"n": 0}, {"n": 1}])
        self.assertEqual(strength(FREE, condition, Table([("n", 1, BOUND, False, False)])), "safe")
        self.assertEqual(strength(FREE, condition, Table([("n", 2, BOUND, False, False)])), "sure")

    def test_tables_without_a_row(self):
        table = Table([("n", 0, 0, False, False)], [("asks", "n", (("over", 1),), ">", 0)])
        for planner in plain_planners():
            for condition in (BOTH, always("error"), ("any", (SOME, always("error")))):
                errs = folded(planner, condition)
                self.assertEqual(strength(planner, condition, table), "never" if errs else "sure")
                self.assertEqual(hard_rows(planner, condition, table), [] if errs else None)

    def test_a_table_without_columns(self):
        for planner in plain_planners():
            for word in ("yes", "no", "unknown", "error"):
                found = self.check(planner, Table([]), ("all", (always(word),)), [{}])
                self.assertEqual(found[1], "never" if word == "error" else "sure")

    def test_unknown_and_folds(self):
        table = Table([("n", -9, 9, True, False)])
        guard = ("all", (SOME, ("case", ((("empty", "n"), always("error")),), always("yes"))))
        for mode in ("free", "text"):
            self.assertEqual(strength(Planner(mode, unknown=True), guard, table), "safe" if mode == "free" else "sure")
            self.assertEqual(strength(Planner(mode), guard, table), "never")
            for unknown in (False, True):
                planner = Planner(mode, unknown=unknown, folds=True)
                self.assertEqual(strength(planner, guard, table), "never")
                found = hard_rows(planner, guard, table)
                self.assertLessEqual(len(found), 3)
                self.assertEqual([table.has_row(row) for row in found], [True] * len(found))

    def test_told_things_stay(self):
        table = Table([("n", -9, 9, False, False)])
        found = [(strength(planner, BOTH, table), hard_rows(planner, BOTH, table)) for planner in (FREE, TEXT, FREE)]
        self.assertEqual(found, [("safe", None), ("never", [{"n": 0}]), ("safe", None)])
        other = table.with_index(("asks", "n", (("over", 1),), ">", 0))
        self.assertEqual([strength(TEXT, BOTH, other), strength(TEXT, BOTH, table)], ["sure", "never"])


if __name__ == "__main__":
    unittest.main()
