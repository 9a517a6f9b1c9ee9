"""Point [90]: joins, and what is asked beneath them."""

import itertools
import random
import unittest

from refusedahead.classes import class_rows
from refusedahead.errors import NoColumn, Twice, Wrong
from refusedahead.joins import (
    Join, is_join_paper, join_can_err, join_paper, join_ways, lone_rows, pair_rows, run_join)
from refusedahead.planners import Planner
from refusedahead.tables import Table
from refusedahead.texts import tests_in
from tests.joining import (
    columns_asked, make_asked, make_join, right_holds, right_rows, right_run_join, right_sides, right_ways)
from tests.planning import SAYS, all_places, big_conditions, right_count, right_planners, right_run
from tests.test_asks import right_answer
from tests.test_classes import all_rows, values_of
from tests.things import any_things

LEFT, RIGHT = Table([("n", 0, 9, False, False)]), Table([("key", 5, 12, True, False)])
JOIN, PARTNER = Join(LEFT, RIGHT, "n", "key"), Join(LEFT, RIGHT, "n", "key", partner=True)
SHARE = ("asks", "n", (("over", 12),), ">", 1)
KEYS = ("asks", "key", (("plus", -7), ("over", 1)), "<>", 0)
FREE, TEXT, EVERY = Planner("free"), Planner("text"), Planner("every")
ERROR = ("always", "error")
BOUND = 10 ** 12


def beneath(mode, **truths):
    return Planner(mode, beneath=True, **truths)


def some_contents(source, join, most=3):
    """Contents of a join, at random."""
    while True:
        lists = []
        for table in (join.left, join.right):
            rows = all_rows(table)
            lists.append([dict(source.choice(rows)) for _ in range(source.randrange(most + 1)) if rows])
        if right_holds(join, *lists):
            return tuple(lists)


class JoinTest(unittest.TestCase):

    def test_fields(self):
        for join, partner in ((JOIN, False), (PARTNER, True)):
            self.assertEqual([join.left, join.right, join.one, join.other], [LEFT, RIGHT, "n", "key"])
            self.assertIs(join.partner, partner)

    def test_wrong(self):
        for thing in any_things():
            for place, given in enumerate(((thing, RIGHT, "n", "key"), (LEFT, thing, "n", "key"))):
                with self.assertRaises(Wrong) as caught:
                    Join(*given)
                self.assertEqual(caught.exception.place, place)
            if not isinstance(thing, bool):
                with self.assertRaises(Wrong) as caught:
                    Join(LEFT, RIGHT, "n", "key", partner=thing)
                self.assertEqual(caught.exception.place, 4)
        for thing in ["", "A", "ninechars", None, 1, ("n",), ["n"], True, b"n", "n\n"]:
            for place, given in ((2, (thing, "key")), (3, ("n", thing)), (2, (thing, thing))):
                with self.assertRaises(Wrong) as caught:
                    Join(LEFT, RIGHT, *given)
                self.assertEqual(caught.exception.place, place)

    def test_the_first_wrong_one_counts(self):
        for given, place in (((None, None, None, None), 0), ((LEFT, None, None, None), 1), ((LEFT, RIGHT, None, 1), 2),
                             ((LEFT, RIGHT, "n", 1), 3), ((LEFT, RIGHT, "n", "key"), 4), ((LEFT, LEFT, "x", "y"), 4)):
            with self.assertRaises(Wrong) as caught:
                Join(*given, partner=1)
            self.assertEqual(caught.exception.place, place)

    def test_twice_ahead_of_no_column(self):
        columns = [(name, 0, 1, False, False) for name in "zca"]
        for right, name in ((columns, "a"), (columns[:2], "c"), (columns[:1], "z")):
            with self.assertRaises(Twice) as caught:
                Join(Table(columns), Table(right), "q", "q")
            self.assertEqual(caught.exception.name, name)

    def test_no_column(self):
        for one, other, name in (("q", "x", "q"), ("n", "x", "x"), ("key", "n", "key"), ("n", "n", "n")):
            with self.assertRaises(NoColumn) as caught:
                Join(LEFT, RIGHT, one, other)
            self.assertEqual(caught.exception.name, name)

    def test_equal(self):
        two, more = Table([("n", 0, 9, False, False), ("m", 0, 1, False, False)]), RIGHT.with_index(("empty", "key"))
        joins = [JOIN, PARTNER, Join(two, RIGHT, "n", "key"), Join(two, RIGHT, "m", "key"),
                 Join(LEFT, more, "n", "key"), Join(RIGHT, LEFT, "key", "n"),
                 Join(LEFT, RIGHT.with_column(("k", 0, 1, False, False)), "n", "k"),
                 Join(LEFT, RIGHT.with_column(("k", 0, 1, False, False)), "n", "key")]
        for (at, one), (beside, other) in itertools.product(enumerate(joins), repeat=2):
            copy = Join(other.left, other.right, other.one, other.other, partner=other.partner)
            self.assertIs(one == copy, at == beside)
            self.assertIs(one != copy, at != beside)
        for thing in any_things() + [LEFT, (LEFT, RIGHT, "n", "key", False)]:
            self.assertIs(JOIN == thing, False)
            self.assertIs(thing == JOIN, False)
            self.assertIs(JOIN != thing, True)


class ContentsTest(unittest.TestCase):

    def test_holds(self):
        right = [([], []), ([{"n": 0}], []), ([], [{"key": 5}, {"key": None}, {"key": 5}]), ([{"n": 7}] * 2, [{"key": 7}])]
        for contents in right:
            self.assertIs(JOIN.holds(contents), True)
            self.assertIs(PARTNER.holds(contents), contents != right[1])
        for join in (JOIN, PARTNER):
            for thing in any_things() + [
                    [[], []], ([],), ([], [], []), ((), []), ([], ()), (({"n": 7},), [{"key": 7}]), ([{"n": 10}], []),
                    ([{"n": 7}], [{"key": 13}]), ([{"key": 7}], [{"n": 7}]), ([{"n": True}], []), ([{"n": None}], []),
                    ([{"n": 7, "key": 7}], []), ([{}], []), ({"n": 7}, [{"key": 7}]), (None, None), ("", ""),
                    ([7], [7]), ([[]], [[]]), {0: [], 1: []}]:
                self.assertIs(join.holds(thing), False, thing)
            for thing in any_things():
                self.assertIs(join.holds((thing, [{"key": 7}])), isinstance(thing, list) and thing == [])
                self.assertIs(join.holds(([{"n": 7}, thing], [{"key": 7}])), False)
                self.assertIs(join.holds(([{"n": 7}], [{"key": 7}, thing])), False)

    def test_partner(self):
        self.assertIs(PARTNER.holds(([{"n": 7}, {"n": 8}], [{"key": 8}])), False)
        self.assertIs(PARTNER.holds(([{"n": 7}, {"n": 8}], [{"key": 8}, {"key": None}, {"key": 7}])), True)
        empty = Join(Table([("n", 0, 1, True, True)]), Table([("m", 0, 1, True, True)]), "n", "m", partner=True)
        self.assertIs(empty.holds(([{"n": None}], [{"m": None}])), False)
        self.assertIs(empty.holds(([{"n": "ten"}], [{"m": "a"}, {"m": "ten"}])), True)
        self.assertIs(empty.holds(([{"n": 0}], [{"m": 1}])), False)

    def test_refused_rows(self):
        left = LEFT.with_index(SHARE)
        for partner in (False, True):
            join = Join(left, RIGHT.with_index(KEYS), "n", "key", partner=partner)
            self.assertIs(join.holds(([{"n": 5}], [{"key": 5}])), True)
            self.assertIs(join.holds(([{"n": 5}, {"n": 0}], [{"key": 5}])), False)
            self.assertIs(join.holds(([{"n": 5}], [{"key": 5}, {"key": 7}])), False)

    def test_rows(self):
        source = random.Random(231)
        for _ in range(200):
            join = make_join(source)
            contents = some_contents(source, join, 5)
            kept = [[dict(row) for row in rows] for rows in contents]
            right = right_rows(join, *contents)
            for _ in range(2):
                found = join.rows(contents)
                self.assertEqual(found, right)
                self.assertEqual([list(row) for row in found], [list(row) for row in right])
                self.assertEqual(len({id(row) for row in found}), len(found))
                for row in found:
                    row.clear()
                found.clear()
            self.assertEqual(list(contents), kept)
            self.assertIs(join.holds(contents), True)

    def test_the_order_of_the_rows(self):
        two = Table([("a", 0, 9, False, False), ("n", 0, 9, True, False)])
        join = Join(two, RIGHT, "n", "key")
        lefts = [{"n": 7, "a": 1}, {"n": 5, "a": 2}, {"n": None, "a": 3}, {"n": 7, "a": 4}]
        rights = [{"key": 7}, {"key": 5}, {"key": None}, {"key": 7}]
        self.assertEqual(join.rows((lefts, rights)), [
            {"a": 1, "key": 7, "n": 7}, {"a": 1, "key": 7, "n": 7}, {"a": 2, "key": 5, "n": 5},
            {"a": 4, "key": 7, "n": 7}, {"a": 4, "key": 7, "n": 7}])


class WaysTest(unittest.TestCase):

    def check(self, planner, join, condition):
        right = right_ways(planner, join, condition)
        for _ in range(2):
            found = join_ways(planner, join, condition)
            self.assertEqual(found, right)
            lists = [thing for lot, plan in found for thing in [lot, plan] + list(plan.values())]
            self.assertEqual(len({id(thing) for thing in lists}), len(lists))
            for lot, plan in found:
                lot.append(())
                plan.clear()
            found.clear()
        return len(right)

    def test_ways(self):
        source, seen = random.Random(232), set()
        for _ in range(150):
            join = make_join(source)
            condition = make_asked(source, join, 24)
            if right_count(condition) * 2 ** len(right_sides(join, condition)) <= 720:
                seen.add(self.check(source.choice(right_planners()), join, condition))
        self.assertGreater(len(seen), 6)

    def test_up_to_720(self):
        condition = ("all", (SHARE, KEYS, ("empty", "n"), ("empty", "key"), ("asks", "n", (), "=", 7)))
        self.assertEqual(self.check(FREE, JOIN, condition), 120)
        self.assertEqual(self.check(beneath("free"), JOIN, ("all", condition[1][:4])), 24 * 16)
        self.assertEqual(self.check(beneath("text"), JOIN, ("all", condition[1] + (SHARE,))), 64)
        self.assertEqual(self.check(FREE, JOIN, ("all", condition[1] + (SHARE,))), 720)

    def test_which_parts_are_single(self):
        both = ("any", (SHARE, KEYS))
        condition = ("all", (both, SHARE, ("always", "yes"), ("all", ()), ("not", KEYS), ("all", (SHARE, KEYS))))
        self.assertEqual([lot for lot, _ in join_ways(beneath("text"), JOIN, condition)],
                         [[], [(1,)], [(1,), (4,)], [(4,)]])
        self.assertEqual(join_ways(beneath("text"), JOIN, ("all", ())), [([], {(): []})])
        self.assertEqual(join_ways(beneath("text"), JOIN, both), [([], {(): [0, 1]})])
        self.assertEqual(join_ways(beneath("text"), JOIN, ("any", (SHARE, ("not", SHARE)))),
                         [([], {(): [0, 1]}), ([()], {(): [0, 1]})])
        self.assertEqual(join_ways(beneath("text"), JOIN, ("always", "no")), [([], {})])


class RunTest(unittest.TestCase):

    def test_by_going_row_by_row(self):
        source, seen, lots = random.Random(233), [], 0
        for _ in range(800):
            join = make_join(source)
            condition, planner = make_asked(source, join), source.choice(right_planners())
            if source.random() < 0.6:
                planner = planner.with_truth("beneath", True)
            contents = some_contents(source, join, 4)
            kept = [[dict(row) for row in rows] for rows in contents]
            ways = right_ways(planner, join, condition)
            for way in source.sample(ways, min(6, len(ways))):
                right = right_run_join(planner, join, condition, way, contents)
                for _ in range(2):
                    found = run_join(planner, join, condition, way, contents)
                    self.assertEqual(found, right, (planner.mode, condition, way, contents))
                    for row in found or []:
                        row.clear()
                seen.append(right is None)
                lots += len(way[0]) > 0 and bool(right)
            self.assertEqual(list(contents), kept)
        self.assertGreater(min(seen.count(True), seen.count(False), 12 * lots), 300)

    def test_an_error_beneath_that_joins_nothing(self):
        for contents, right in ((([{"n": 0}], []), None), (([], []), []), (([{"n": 5}], []), [])):
            self.assertEqual(run_join(beneath("text"), JOIN, SHARE, ([()], {}), contents), right)
            self.assertEqual(run_join(beneath("text"), JOIN, SHARE, ([], {}), contents), [])
        self.assertIs(run_join(beneath("text"), JOIN, KEYS, ([()], {}), ([], [{"key": 7}])), None)
        self.assertEqual(run_join(beneath("text"), JOIN, KEYS, ([], {}), ([], [{"key": 7}])), [])

    def test_unknown_does_not_come_to_the_join(self):
        condition = ("all", (("asks", "key", (), ">", 4), SHARE))
        contents = ([{"n": 5}], [{"key": 5}, {"key": None}])
        for unknown in (False, True):
            for lot in ([], [(0,)], [(1,)], [(0,), (1,)]):
                found = run_join(beneath("free", unknown=unknown), JOIN, condition, (lot, {(): [1, 0]}), contents)
                self.assertEqual(found, [{"key": 5, "n": 5}])

    def test_the_order_of_the_plan_beneath(self):
        some = ("asks", "n", (), "<>", 0)
        condition, contents = ("all", (SHARE, some)), ([{"n": 0}, {"n": 5}], [{"key": 5}])
        lot = [(0,), (1,)]
        self.assertIs(run_join(beneath("free"), JOIN, condition, (lot, {(): [0, 1]}), contents), None)
        self.assertEqual(run_join(beneath("free"), JOIN, condition, (lot, {(): [1, 0]}), contents), [{"key": 5, "n": 5}])
        self.assertIs(run_join(beneath("free"), JOIN, condition, ([(0,)], {(): [1, 0]}), contents), None)
        self.assertIs(run_join(beneath("every"), JOIN, ("all", (some, SHARE)), (lot, {(): [0, 1]}), contents), None)

    def test_folds(self):
        condition = ("all", (SHARE, ("any", (("always", "yes"), ERROR))))
        for contents in (([], []), ([{"n": 5}], [{"key": 5}])):
            self.assertIs(run_join(Planner("text", folds=True), JOIN, condition, ([], {(): [0, 1], (1,): [0, 1]}), contents),
                          None)
        self.assertEqual(run_join(TEXT, JOIN, condition, ([], {(): [0, 1], (1,): [0, 1]}), ([{"n": 5}], [{"key": 5}])),
                         [{"key": 5, "n": 5}])


class PairsTest(unittest.TestCase):

    def mark(self, join, condition, row):
        """What tests and indexes answer at the values of a row."""
        tests = tests_in(condition) + join.left.indexes() + join.right.indexes()
        return [(test, right_answer(test, row[test[1]])) for test in tests if test[1] in row]

    def check(self, join, condition):
        """Holds the rows against all joined rows of small tables."""
        right = []
        lefts, rights = class_rows(join.left, [condition]), class_rows(join.right, [condition])
        everyone = right_rows(join, all_rows(join.left), all_rows(join.right))
        paired = []
        for one in lefts:
            for other in rights:
                mark = self.mark(join, condition, {**one, **other})
                lot = [row for row in everyone if self.mark(join, condition, row) == mark]
                if lot:
                    common = [value for value in values_of(join.left[join.one])
                              if value in [row[join.one] for row in lot]][0]
                    right.append(dict(sorted({**one, **other, join.one: common, join.other: common}.items())))
                    paired.append(one)
        for _ in range(2):
            found = pair_rows(join, condition)
            self.assertEqual(found, right, (join.left.columns(), join.right.columns(), condition))
            self.assertEqual([list(row) for row in found], [list(row) for row in right])
            for row in found:
                row.clear()
            lone = lone_rows(join, condition)
            self.assertEqual(lone, ([one for one in lefts if not join.partner or one in paired], rights))
            self.assertIsInstance(lone, tuple)
            lone[0].clear()
            lone[1].clear()
        return len(right), len(everyone)

    def test_small_tables(self):
        source, seen = random.Random(234), set()
        for _ in range(250):
            join = make_join(source)
            seen.add(self.check(join, make_asked(source, join)))
        self.assertGreater(len(seen), 15)

    def test_none_apart(self):
        left, right = Table([("n", 0, 3, True, False)]), Table([("m", 2, 5, True, False)])
        for condition in (("always", "yes"), ("empty", "n"), ("asks", "m", (), ">", 2)):
            self.check(Join(left, right, "n", "m"), condition)
        self.assertEqual(pair_rows(Join(left, right, "n", "m"), ("always", "yes")), [{"m": 2, "n": 2}])
        nothing = Join(Table([("n", 0, 1, True, False)]), right, "n", "m", partner=True)
        self.assertEqual([pair_rows(nothing, ("always", "no")), lone_rows(nothing, ("always", "no"))],
                         [[], ([], [{"m": None}])])

    def test_words(self):
        left, right = Table([("n", 0, 3, True, True)]), Table([("m", 5, 9, True, True)])
        self.assertEqual(pair_rows(Join(left, right, "n", "m"), ("number", "n")), [{"m": "a", "n": "a"}])
        self.assertEqual(pair_rows(Join(left, right, "n", "m"), ("always", "no")), [{"m": "a", "n": "a"}])
        numbers = Table([("m", 3, 9, True, True)])
        self.assertEqual(pair_rows(Join(left, numbers, "n", "m"), ("number", "n")), [{"m": 3, "n": 3}, {"m": "a", "n": "a"}])
        self.assertEqual(pair_rows(Join(left, numbers, "n", "m"), ("always", "no")), [{"m": 3, "n": 3}])

    def test_wide_tables(self):
        left = Table([("n", -BOUND, BOUND, True, True), ("a", 0, 1, False, False)])
        right = Table([("m", 1 - BOUND, BOUND, False, False)])
        condition = ("any", (("asks", "n", (("plus", -BOUND), ("over", 1)), "=", -1), ("asks", "m", (), "<", -5)))
        join = Join(left, right, "n", "m")
        self.assertEqual(pair_rows(join, condition), [
            {"a": 0, "m": 1 - BOUND, "n": 1 - BOUND}, {"a": 0, "m": -5, "n": -5}, {"a": 0, "m": BOUND, "n": BOUND}])
        self.assertEqual(lone_rows(join, condition)[1], [{"m": 1 - BOUND}, {"m": -5}])
        partner = Join(left, Table([("m", BOUND, BOUND, False, False)]), "n", "m", partner=True)
        self.assertEqual(lone_rows(partner, condition)[0], [{"a": 0, "n": BOUND}])
        last = ("asks", "n", (("plus", -BOUND), ("over", 1)), "<", 0)
        for asked, right in ((last, True), (("all", (("asks", "n", (), "<", BOUND), last)), False)):
            self.assertIs(join_can_err(TEXT, partner, asked), right)
        self.assertIs(join_can_err(TEXT, Join(left, Table([("m", 0, BOUND - 1, True, False)]), "n", "m"), last), False)


class CanErrTest(unittest.TestCase):

    def some_contents(self, join):
        """All contents of at most one row of each Table."""
        for one in [None] + all_rows(join.left):
            for other in [None] + all_rows(join.right):
                lefts, rights = [one] if one is not None else [], [other] if other is not None else []
                if right_holds(join, lefts, rights):
                    yield lefts, rights

    def right(self, planner, join, condition):
        return any(right_run_join(planner, join, condition, way, contents) is None
                   for contents in self.some_contents(join) for way in right_ways(planner, join, condition))

    def check(self, planner, join, condition, right):
        for _ in range(2):
            self.assertIs(join_can_err(planner, join, condition), right, (planner.mode, condition))
            paper = join_paper(planner, join, condition)
            self.assertEqual(paper is not None, right)
            self.assertIs(is_join_paper(planner, join, condition, paper), right)
            if right:
                contents, (lot, plan) = paper
                self.assertTrue(all(len(rows) <= 1 for rows in contents))
                self.assertIs(join.holds(contents), True)
                self.assertIs(right_run_join(planner, join, condition, (lot, plan), contents), None)
                self.assertEqual([lot == sorted(set(lot)), planner.beneath or lot == []], [True, True])
                self.assertEqual(list(plan), sorted(plan))
                lot.append(())
                plan.clear()
                contents[0].clear()
                contents[1].clear()

    def test_by_all_contents(self):
        source, seen, beneath_alone = random.Random(235), [], 0
        for _ in range(400):
            join = make_join(source)
            condition, planner = make_asked(source, join, 6), source.choice(right_planners())
            right = self.right(planner, join, condition)
            self.check(planner, join, condition, right)
            seen.append(right)
            behind = planner.with_truth("beneath", False)
            beneath_alone += right and not join_can_err(behind, join, condition)
        self.assertGreater(min(seen.count(True), seen.count(False), 9 * beneath_alone), 100)

    def test_more_rows_err_no_more(self):
        source = random.Random(236)
        for _ in range(300):
            join = make_join(source)
            condition, planner = make_asked(source, join, 6), source.choice(right_planners())
            if join_can_err(planner, join, condition):
                continue
            contents = some_contents(source, join)
            for way in right_ways(planner, join, condition)[:40]:
                self.assertIsNotNone(run_join(planner, join, condition, way, contents))
                self.assertIs(is_join_paper(planner, join, condition, (contents, way)), False)

    def test_partner(self):
        # At n = 0 the part errs, but no row on the right joins with such a row.
        self.check(beneath("text"), JOIN, SHARE, True)
        self.check(beneath("text"), PARTNER, SHARE, False)
        self.check(TEXT, JOIN, SHARE, False)
        for join in (JOIN, PARTNER):
            self.check(TEXT, join, KEYS, True)
            self.check(beneath("text"), join, ("all", (("asks", "n", (), "<>", 7), KEYS)), True)
            self.check(TEXT, join, ("all", (("asks", "n", (), "<>", 7), KEYS)), False)

    def test_folds(self):
        for mode in ("every", "free", "text"):
            for join in (JOIN, PARTNER):
                self.check(Planner(mode, folds=True), join, ("all", (("always", "no"), ERROR)), True)
                self.check(Planner(mode), join, ("all", (("always", "no"), ERROR)), mode != "text")

    def test_no_joined_row(self):
        join = Join(Table([("n", 0, 3, True, False)]), RIGHT, "n", "key")
        self.check(FREE, join, ("all", (SHARE, ERROR)), False)
        self.check(beneath("free"), join, ("all", (SHARE, ERROR)), True)
        self.check(beneath("free"), join, ERROR, False)

    def test_far_more_plans(self):
        for condition in big_conditions():
            names = sorted(columns_asked(condition))
            # All leaves answer yes, but for two that may err.
            left = Table([(name, 1, 2 if name in "ab" else 1, False, False) for name in names[:6]] +
                         [("left", 0, 1, False, False)])
            right = Table([(name, 1, 1, False, False) for name in names[6:]] + [("right", 0, 1, False, False)])
            join = Join(left, right, "left", "right")
            self.assertGreater(right_count(condition), 500)
            row = {name: SAYS["yes"] for name in names}
            row["a"] = SAYS["error"]
            plan = {address: list(range(len(part[1]))) for address, part in all_places(condition)
                    if part[0] in ("all", "any")}
            for planner in (FREE, beneath("free"), TEXT, beneath("text"), beneath("every")):
                paper = join_paper(planner, join, condition)
                self.assertIs(is_join_paper(planner, join, condition, paper), join_can_err(planner, join, condition))
                if right_run(planner, condition, plan, row) == "error":
                    self.assertIs(join_can_err(planner, join, condition), True)
                if paper is not None:
                    self.assertIs(right_run_join(planner, join, condition, paper[1], paper[0]), None)

    def test_is_join_paper(self):
        right = (([{"n": 0}], []), ([()], {}))
        planner = beneath("text")
        self.assertIs(is_join_paper(planner, JOIN, SHARE, right), True)
        self.assertIs(is_join_paper(planner, JOIN, SHARE, (([{"n": 5}] * 3 + [{"n": 0}] * 20, []), ([()], {}))), True)
        self.assertIs(is_join_paper(TEXT, JOIN, SHARE, right), False)
        self.assertIs(is_join_paper(planner, PARTNER, SHARE, right), False)
        for thing in ((([{"n": 0}], []), ([], {})), (([{"n": 5}], []), ([()], {})), (([{"n": 0}], []), ((()), {})),
                      (([{"n": 0}], []), [[()], {}]), [([{"n": 0}], []), ([()], {})], (([{"n": 0}], []), ([()],)),
                      (([{"n": False}], []), ([()], {})), (([{"n": 0}], []), ([()], {(): []})),
                      (([{"n": 0}], []), ([(), ()], {})), (([{"n": 0}], []), ([(0,)], {})),
                      (([{"n": 0}], []), ([[]], {})), (([{"n": 0}], []), ([None], {})), ([[{"n": 0}], []], ([()], {})),
                      (([{"n": 0}], []), ([()], None)), (([{"n": 0}], []), None), (None, ([()], {})), right + (0,)):
            self.assertIs(is_join_paper(planner, JOIN, SHARE, thing), False, thing)
        for thing in any_things():
            for paper in (thing, (thing, right[1]), (right[0], thing), (right[0], (thing, {}))):
                self.assertIs(is_join_paper(planner, JOIN, SHARE, paper), False)
            self.assertIs(is_join_paper(planner, JOIN, SHARE, (right[0], ([thing], {}))), thing == () and
                          isinstance(thing, tuple))
            self.assertIs(is_join_paper(planner, JOIN, SHARE, (right[0], ([()], thing))), isinstance(thing, dict) and
                          thing == {})

    def test_lots_of_a_paper(self):
        condition = ("all", (SHARE, ("asks", "n", (), ">=", 0), KEYS))
        planner, contents, plan = beneath("free"), ([{"n": 0}], []), {(): [0, 1, 2]}
        for lot, right in (([(0,)], True), ([(0,), (1,)], True), ([(1,), (0,)], False), ([(0,), (0,)], False),
                           ([(1,)], False), ([(0,), (2,)], True), ([(False,)], False), ([(0, 0)], False),
                           ([(3,)], False), ([()], False), ([(-1,)], False), ([], False)):
            self.assertIs(is_join_paper(planner, JOIN, condition, (contents, (lot, plan))), right, lot)
        self.assertIs(is_join_paper(beneath("text"), JOIN, condition, (contents, ([(0,)], {(): [1, 0, 2]}))), False)
        self.assertIs(is_join_paper(planner, JOIN, condition, (contents, ([(0,)], {(): [1, 0, 2]}))), True)


if __name__ == "__main__":
    unittest.main()
