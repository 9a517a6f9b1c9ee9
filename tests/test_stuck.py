"""Point [61]: bars."""

import random
import unittest

from refusedahead.planners import Planner
from refusedahead.stuck import bar, is_bar, rows_of
from tests.makers import always
from tests.planning import (
    LEAVES, SAYS, all_places, all_said, below, big_conditions, folded, leaf, make_frame, right_kept_by, right_planners,
    right_plans, right_value, safe_for)
from tests.things import any_things

SOME, TENS = ("asks", "n", (), "<>", 0), ("asks", "n", (("over", 10),), ">", 3)
BOTH, ROWS = ("all", (TENS, SOME)), [{"n": 0}, {"n": 2}]
FREE, FOLDS, UNKNOWN = Planner("free"), Planner("free", folds=True), Planner("free", unknown=True)
FREES = [planner for planner in right_planners() if planner.mode == "free" and not planner.beneath
         and not planner.early]


def is_index(thing):
    return isinstance(thing, int) and not isinstance(thing, bool)


class Right:
    """What is a bar, told once more by itself, with values by going through all plans."""

    def __init__(self, planner, condition, rows):
        self.planner, self.condition, self.rows = planner, condition, rows
        self.part = dict(all_places(condition))
        self.values = {(address, index): right_value(planner, condition, row, address)
                       for address in self.part for index, row in enumerate(rows)}

    def is_bar(self, thing):
        if isinstance(thing, tuple) and len(thing) == 2 and thing[0] == "folds" and self.planner.folds:
            return self.is_address(thing[1]) and self.part.get(thing[1]) == ("always", "error")
        return self.is_at(thing, (), list(range(len(self.rows))))

    def is_address(self, thing):
        return isinstance(thing, tuple) and all(is_index(index) for index in thing)

    def is_at(self, thing, address, coming):
        if not isinstance(thing, tuple) or len(thing) < 3 or not self.is_address(thing[1]) or thing[1] != address:
            return False
        part = self.part[address]
        if part[0] in LEAVES:
            return (len(thing) == 3 and thing[0] == "leaf" and is_index(thing[2]) and thing[2] in coming
                    and self.values[address, thing[2]] is None)
        if part[0] in ("all", "any"):
            return len(thing) == 3 and thing[0] == "lot" and self.is_lot(thing[2], address, coming)
        if len(thing) != 4 or thing[0] != "part" or not is_index(thing[2]):
            return False
        if not 0 <= thing[2] < len(below(part)):
            return False
        return self.is_at(thing[3], address + (thing[2],), [row for row in coming if self.comes(address, thing[2], row)])

    def comes(self, address, part, row):
        """Whether a row comes to a part of a not, a case or a first."""
        kind = self.part[address][0]
        values = [self.values[address + (index,), row] for index in range(len(below(self.part[address])))]
        if kind == "not":
            return True
        if kind == "first":
            return all(value == "unknown" for value in values[:part])
        pairs = len(self.part[address][1])
        whens = values[:2 * (part // 2):2] if part < 2 * pairs else values[:2 * pairs:2]
        comes = all(value in ("no", "unknown") for value in whens)
        return comes and (part % 2 == 0 or values[part - 1] == "yes")

    def is_lot(self, bars, address, coming):
        part = self.part[address]
        if not isinstance(bars, tuple) or len(bars) == 0:
            return False
        for one in bars:
            if not isinstance(one, tuple) or len(one) != 2 or not is_index(one[0]):
                return False
        told = [one[0] for one in bars]
        if told != sorted(set(told)) or told[0] < 0 or told[-1] >= len(part[1]):
            return False
        decisive = {"all": "no", "any": "yes"}[part[0]]
        others = [index for index in range(len(part[1])) if index not in told]
        left = [row for row in coming
                if decisive not in [self.values[address + (index,), row] for index in others]]
        return all(self.is_at(one[1], address + (one[0],), left) for one in bars)


def changed(thing):
    """Things like a bar, with one number, word or lot in it otherwise."""
    found = []
    if isinstance(thing, tuple):
        found += [list(thing), thing[:-1], thing[1:], thing + thing[-1:], thing[::-1], ()]
        for index in range(len(thing)):
            found += [thing[:index] + thing[index + 1:], thing[:index] + (thing[index],) + thing[index:]]
            found += [thing[:index] + (one,) + thing[index + 1:] for one in changed(thing[index])]
    elif isinstance(thing, str):
        found += [word for word in ("leaf", "lot", "part", "folds", "", thing + " ", None, 0) if word != thing]
    elif isinstance(thing, int):
        found += [thing + 1, thing - 1, -1, 7, bool(thing), thing == 0, str(thing), None, (thing,), [thing]]
    return found


class BarTest(unittest.TestCase):

    def check(self, planner, condition, rows):
        safe = [plan for plan in right_plans(condition) if safe_for(planner, condition, plan, rows)]
        right, told = Right(planner, condition, rows), [dict(row) for row in rows]
        for _ in range(2):
            found = bar(planner, condition, rows)
            self.assertEqual(rows, told)
            self.assertEqual(found is None, safe != [])
            if found is None:
                continue
            self.assertIs(right.is_bar(found), True, found)
            self.assertIs(is_bar(planner, condition, rows, found), True)
            self.check_rows(planner, condition, rows, found)
        return found

    def check_rows(self, planner, condition, rows, found):
        leaves = [part for _, part in all_places(condition) if part[0] in LEAVES]
        for _ in range(2):
            indexes = rows_of(found)
            self.assertEqual(indexes, sorted(set(indexes)))
            self.assertLessEqual(len(indexes), len(leaves))
            alone = [rows[index] for index in indexes]
            for plan in right_plans(condition):
                self.assertIsNone(right_kept_by(planner, condition, plan, alone))
            indexes.append(9)

    def test_frames(self):
        source, kinds = random.Random(121), set()
        for index in range(500):
            frame = make_frame(source, index % 4, 12)
            rows = frame.rows(5, (4, 1, 4, 2))
            for planner in FREES:
                found = self.check(planner, frame.condition, rows)
                if found is not None:
                    kinds.add(found[0])
        self.assertEqual(kinds, {"folds", "leaf", "lot", "part"})

    def test_changed_bars(self):
        source, seen = random.Random(122), {False: 0, True: 0}
        for _ in range(150):
            frame = make_frame(source, 3, 6, always=0.05)
            rows = frame.rows(4, (3, 1, 3, 3))
            planner = source.choice(FREES)
            found = bar(planner, frame.condition, rows)
            if found is None:
                continue
            right = Right(planner, frame.condition, rows)
            for thing in changed(found):
                truth = right.is_bar(thing)
                for _ in range(2):
                    self.assertIs(is_bar(planner, frame.condition, rows, thing), truth, (found, thing))
                seen[truth] += 1
        self.assertGreater(min(seen.values()), 20)

    def test_bars_of_other_rows(self):
        source = random.Random(123)
        for _ in range(150):
            frame = make_frame(source, 3, 6)
            rows, others = frame.rows(4, (3, 1, 3, 3)), frame.rows(4, (3, 1, 3, 3))
            for planner in FREES:
                found = bar(planner, frame.condition, rows)
                if found is not None:
                    right = Right(planner, frame.condition, others).is_bar(found)
                    self.assertIs(is_bar(planner, frame.condition, others, found), right)

    def test_the_ring(self):
        ring = ("all", tuple([("asks", name, (("over", 1),), ">", 0) for name in "abc"]))
        three = [{"a": 0, "b": 2, "c": 1}, {"a": 1, "b": 0, "c": 2}, {"a": 2, "b": 1, "c": 0}]
        told = ("lot", (), ((0, ("leaf", (0,), 0)), (1, ("leaf", (1,), 1)), (2, ("leaf", (2,), 2))))
        self.assertEqual([bar(FREE, ring, three), rows_of(told)], [told, [0, 1, 2]])
        for index in range(3):
            self.assertIs(is_bar(FREE, ring, three[:index] + three[index + 1:], told), False)
            self.assertIsNone(bar(FREE, ring, three[:index] + three[index + 1:]))

    def test_where_bars_are(self):
        error, yes, no, unknown = always("error"), always("yes"), always("no"), always("unknown")
        stuck = ("any", (leaf("a"),))
        within = ("lot", (), ((0, ("leaf", (0,), 0)),))

        def at(address):
            return ("lot", address, ((0, ("leaf", address + (0,), 0)),))

        rows = [{"a": SAYS["error"]}]
        self.assertEqual(bar(FREE, stuck, rows), within)
        for condition, right in (
                (("not", stuck), ("part", (), 0, at((0,)))),
                (("case", ((stuck, yes),), no), ("part", (), 0, at((0,)))),
                (("case", ((yes, stuck),), no), ("part", (), 1, at((1,)))),
                (("case", ((no, error), (unknown, error), (yes, stuck)), no), ("part", (), 5, at((5,)))),
                (("case", ((no, error), (stuck, error)), no), ("part", (), 2, at((2,)))),
                (("case", ((no, error), (unknown, error)), stuck), ("part", (), 4, at((4,)))),
                (("case", (), stuck), ("part", (), 0, at((0,)))),
                (("first", (unknown, unknown, stuck, error)), ("part", (), 2, at((2,)))),
                (("not", ("not", stuck)), ("part", (), 0, ("part", (0,), 0, at((0, 0)))))):
            self.assertEqual(bar(FREE, condition, rows), right)
            self.assertIs(is_bar(FREE, condition, rows, right), True)
            self.assertEqual(rows_of(right), [0])
            self.assertIs(is_bar(FREE, condition, [], right), False)
        for condition in (("case", ((yes, yes), (stuck, yes)), stuck), ("first", (no, stuck)), ("any", (stuck, yes)),
                          ("case", ((no, stuck),), yes)):
            self.assertIsNone(bar(FREE, condition, rows))
        self.assertEqual(bar(FREE, leaf("a"), rows), ("leaf", (), 0))

    def test_behind_a_when_that_has_no_value(self):
        # Rows at which a when errs come to no part behind it.
        condition = ("case", ((leaf("a"), leaf("b")),), leaf("c"))
        row = {"a": SAYS["error"], "b": SAYS["error"], "c": SAYS["error"]}
        self.assertEqual(bar(FREE, condition, [row]), ("part", (), 0, ("leaf", (0,), 0)))
        for part in (1, 2):
            self.assertIs(is_bar(FREE, condition, [row], ("part", (), part, ("leaf", (part,), 0))), False)

    def test_some_parts_of_a_lot(self):
        condition = ("all", (leaf("a"), leaf("b"), leaf("c")))
        rows = [{"a": SAYS["error"], "b": SAYS["error"], "c": SAYS["yes"]},
                {"a": SAYS["error"], "b": SAYS["error"], "c": SAYS["no"]}]
        one, other = (0, ("leaf", (0,), 0)), (1, ("leaf", (1,), 0))
        self.assertEqual(bar(FREE, condition, rows), ("lot", (), (one, other)))
        self.assertIs(is_bar(FREE, condition, rows, ("lot", (), (one,))), True)
        self.assertIs(is_bar(FREE, condition, rows, ("lot", (), (other,))), True)
        for bars in ((other, one), (one, one), (), [one, other], (one, (2, ("leaf", (2,), 0))), ([0, one[1]],),
                     ((False, one[1]),), ((0, ("leaf", (0,), 1)),), ((0, ("leaf", (0,), False)),), (one, None),
                     ((0, ("leaf", (False,), 0)),), ((3, ("leaf", (3,), 0)),), ((-3, ("leaf", (0,), 0)),)):
            self.assertIs(is_bar(FREE, condition, rows, ("lot", (), bars)), False, bars)

    def test_folds(self):
        condition = ("all", (always("no"), ("first", (always("yes"), always("error"))), always("error")))
        for rows in ([], [{}], [{}, {}]):
            found = bar(FOLDS, condition, rows)
            self.assertIn(found, [("folds", (1, 1)), ("folds", (2,))])
            self.assertEqual(rows_of(found), [])
            self.assertIsNone(bar(FREE, condition, rows))
            for address in ((1, 1), (2,)):
                self.assertIs(is_bar(FOLDS, condition, rows, ("folds", address)), True)
                self.assertIs(is_bar(FREE, condition, rows, ("folds", address)), False)
            for thing in (("folds", (0,)), ("folds", ()), ("folds", (1,)), ("folds", (True, 1)), ("folds", [2]),
                          ("folds", (2,), 0), ("folds",), ["folds", (2,)], ("folds", 2), ("fold", (2,)),
                          ("lot", (), ((2, ("folds", (2,))),)), ("folds", (3,)), ("folds", None)):
                self.assertIs(is_bar(FOLDS, condition, rows, thing), False)
        self.assertIs(is_bar(FOLDS, BOTH, ROWS, ("folds", (0,))), False)
        # With FOLDS the other bars are bars as well.
        stuck = ("all", (always("error"),))
        self.assertIs(is_bar(FOLDS, stuck, [{}], ("lot", (), ((0, ("leaf", (0,), 0)),))), True)
        self.assertEqual(bar(FOLDS, always("error"), []), ("folds", ()))

    def test_unknown(self):
        condition = ("all", (leaf("a"), leaf("b")))
        rows = [{"a": SAYS["error"], "b": SAYS["unknown"]}]
        self.assertIsNone(bar(UNKNOWN, condition, rows))
        found = bar(FREE, condition, rows)
        self.assertEqual(found, ("lot", (), ((0, ("leaf", (0,), 0)),)))
        self.assertIs(is_bar(UNKNOWN, condition, rows, found), False)

    def test_any_value(self):
        conditions = [BOTH, TENS, ("not", BOTH), ("case", ((TENS, SOME),), BOTH), ("first", ()), ("all", ())]
        for thing in any_things():
            for condition in conditions:
                for planner in (FREE, FOLDS):
                    self.assertIs(is_bar(planner, condition, ROWS, thing), False)
            for word, address in (("leaf", ()), ("lot", ()), ("part", ())):
                for condition in conditions:
                    self.assertIs(is_bar(FREE, condition, ROWS[1:], (word, address, thing)), False)
                    self.assertIs(is_bar(FREE, condition, ROWS[1:], (word, thing, 0)), False)
                    self.assertIs(is_bar(FREE, condition, ROWS[1:], (word, address, thing, 0)), False)
                    self.assertIs(is_bar(FREE, condition, ROWS[1:], (word, address, 0, thing)), False)

    def test_no_rows_and_equal_rows(self):
        for planner in (FREE, UNKNOWN):
            for condition in big_conditions() + [BOTH]:
                self.assertIsNone(bar(planner, condition, []))
        stuck = ("all", (TENS,))
        for many in (1, 2, 400):
            self.assertEqual(rows_of(bar(FREE, stuck, [{"n": 0}] * many)), [0])
            self.assertIs(is_bar(FREE, stuck, [{"n": 0}] * many, ("lot", (), ((0, ("leaf", (0,), many - 1)),))), True)

    def test_far_more_plans(self):
        source, seen = random.Random(124), 0
        for condition in big_conditions():
            rows = [{name: SAYS[source.choices(("no", "unknown", "yes", "error"), (4, 1, 4, 1))[0]]
                     for name in "abcdefghijkl"} for _ in range(400)]
            for planner in (FREE, UNKNOWN):
                for some in (rows, rows[:40], rows[:8], rows[:2]):
                    found = bar(planner, condition, some)
                    if found is not None:
                        seen += 1
                        self.assertIs(is_bar(planner, condition, some, found), True)
                        alone = [some[index] for index in rows_of(found)]
                        self.assertLessEqual(len(alone), 12)
                        self.assertIsNotNone(bar(planner, condition, alone))
        self.assertGreater(seen, 12)

    def test_told_rows_changed_between(self):
        rows = [{"n": 2}]
        stuck = ("all", (TENS,))
        self.assertIsNone(bar(FREE, stuck, rows))
        rows.append({"n": 0})
        told = ("lot", (), ((0, ("leaf", (0,), 1)),))
        self.assertEqual([bar(FREE, stuck, rows), is_bar(FREE, stuck, rows, told)], [told, True])
        rows.reverse()
        self.assertEqual([is_bar(FREE, stuck, rows, told), rows_of(bar(FREE, stuck, rows))], [False, [0]])

    def test_rows_of_told_bars(self):
        told = ("lot", (), ((0, ("part", (0,), 2, ("leaf", (0, 2), 7))), (1, ("lot", (1,), (
            (0, ("leaf", (1, 0), 3)), (4, ("leaf", (1, 4), 7))))), (2, ("leaf", (2,), 0))))
        self.assertEqual(rows_of(told), [0, 3, 7])

    def test_each_plan_errs_somewhere(self):
        source = random.Random(125)
        for _ in range(60):
            frame = make_frame(source, 3, 24)
            rows = frame.rows(4, (5, 1, 5, 2))
            errs = folded(FREE, frame.condition) or all(
                "error" in said for _, said in all_said(FREE, frame.condition, rows))
            self.assertEqual(bar(FREE, frame.condition, rows) is not None, errs)


if __name__ == "__main__":
    unittest.main()
