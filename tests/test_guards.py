"""Point [71]: guards."""

import itertools
import random
import unittest

from refusedahead.errors import Ring
from refusedahead.guards import (
    cheapest, gap, guards_for, is_gap, is_guarded, leading, least_guards, needless)
from refusedahead.planners import Planner
from tests.makers import always
from tests.planning import SAYS, all_said, leaf, make_flat, right_planners
from tests.things import any_things

SOME, TENS = ("asks", "n", (), "<>", 0), ("asks", "n", (("over", 10),), ">", 3)
BOTH, ROWS = ("all", (TENS, SOME)), [{"n": 0}, {"n": 2}]
FREE, UNKNOWN = Planner("free"), Planner("free", unknown=True)
FREES = [planner for planner in right_planners() if planner.mode == "free"]
FOUR = ("all", tuple([leaf(name) for name in "abcd"]))


def keeps(order, guards):
    return all(order.index(one) < order.index(other) for one, other in guards)


class Right:
    """What guards come to, by going through all orders."""

    def __init__(self, planner, condition, rows):
        self.many = len(condition[1])
        self.said = {tuple(plan[()]): said for plan, said
                     in all_said(planner.with_truth("folds", False), condition, rows)}
        self.pairs = list(itertools.permutations(range(self.many), 2))

    def kept(self, guards):
        return [order for order in self.said if keeps(order, guards)]

    def is_guarded(self, guards):
        return all("error" not in self.said[order] for order in self.kept(guards))

    def gaps(self, guards):
        return [(list(order), index) for order in self.kept(guards)
                for index, word in enumerate(self.said[order]) if word == "error"]

    def all_guards(self):
        """All guards with which the condition is guarded, the fewest first."""
        found = []
        for many in range(7):
            for guards in itertools.combinations(self.pairs, many):
                if self.kept(guards) and self.is_guarded(guards):
                    found.append(guards)
        return found

    def is_least(self, guards):
        fewer = [guards[:index] + guards[index + 1:] for index in range(len(guards))]
        return self.is_guarded(guards) and not [some for some in fewer if self.is_guarded(some)]


def right_leading(guards, part):
    """The parts from which guards lead to a part, by going on until no more come."""
    found = set()
    while True:
        more = {one for one, other in guards if other == part or other in found} - found
        if not more:
            return sorted(found)
        found |= more


class LeadingTest(unittest.TestCase):

    def test_all_guards_of_three_and_some_of_six(self):
        source = random.Random(161)
        three = list(itertools.permutations(range(3), 2))
        for many in range(7):
            for guards in itertools.combinations(three, many):
                self.check(("any", (SOME,) * 3), list(guards), source)
        six = list(itertools.permutations(range(6), 2))
        for _ in range(300):
            self.check(("all", (SOME,) * 6), source.sample(six, source.randrange(9)), source)

    def check(self, condition, guards, source):
        source.shuffle(guards)
        told = list(guards)
        rings = [part for part in range(len(condition[1])) if part in right_leading(guards, part)]
        for part in range(len(condition[1])):
            for _ in range(2):
                if rings:
                    self.check_ring(rings[0], condition, guards, part)
                    continue
                found = leading(condition, guards, part)
                self.assertEqual(found, right_leading(guards, part))
                found.append(9)
                self.assertEqual(guards, told)

    def check_ring(self, least, condition, guards, part):
        calls = [(leading, (condition, guards, part)), (is_guarded, (FREE, condition, ROWS, guards)),
                 (gap, (FREE, condition, ROWS, guards)), (is_gap, (FREE, condition, ROWS, guards, None)),
                 (needless, (FREE, condition, ROWS, guards))]
        for call, args in calls:
            with self.assertRaises(Ring) as caught:
                call(*args)
            self.assertEqual(caught.exception.part, least)

    def test_the_least_part_that_is_led_back_to_itself(self):
        # 0 leads to the ring, and 1 comes behind it, but neither is on it.
        guards = [(0, 3), (3, 4), (4, 2), (2, 3), (4, 1)]
        self.check_ring(2, ("all", (SOME,) * 5), guards, 0)
        self.check_ring(0, BOTH, [(0, 1), (1, 0)], 1)

    def test_ring_is_raised_first(self):
        for thing in any_things():
            with self.assertRaises(Ring):
                is_gap(FREE, BOTH, ROWS, [(0, 1), (1, 0)], thing)


class GuardedTest(unittest.TestCase):

    def check(self, planner, condition, rows, guards):
        right, told = Right(planner, condition, rows), (list(guards), [dict(row) for row in rows])
        truth, gaps = right.is_guarded(guards), right.gaps(guards)
        spare = [guard for guard in sorted(guards) if right.is_guarded([one for one in guards if one != guard])]
        for _ in range(2):
            self.assertIs(is_guarded(planner, condition, rows, guards), truth)
            found = gap(planner, condition, rows, guards)
            self.assertEqual(found is None, truth)
            if found is not None:
                self.assertIn(found, gaps)
                self.assertIs(is_gap(planner, condition, rows, guards, found), True)
                found[0].append(9)
            some = needless(planner, condition, rows, guards)
            self.assertEqual(some, spare)
            some.append(9)
            self.assertEqual((guards, rows), told)
        for order in right.said:
            for index in range(len(rows)):
                thing = (list(order), index)
                self.assertIs(is_gap(planner, condition, rows, guards, thing), thing in gaps)
        return truth, len(spare) > 0

    def test_flat_frames(self):
        source, seen = random.Random(162), set()
        for _ in range(250):
            frame = make_flat(source, always=0.03)
            rows, many = frame.mild_rows(4), len(frame.condition[1])
            for planner in source.sample(FREES, 2):
                # Guards that go with an order, so that no ring is among them.
                order = source.sample(range(many), many)
                pairs = [(one, other) for one, other in itertools.permutations(range(many), 2)
                         if order.index(one) < order.index(other)]
                guards = source.sample(pairs, source.randrange(len(pairs) + 1))
                seen.add(self.check(planner, frame.condition, rows, guards))
        self.assertEqual(seen, {(True, True), (True, False), (False, False)})

    def test_six_parts(self):
        condition = ("any", tuple([leaf(name) for name in "abcdef"]))
        rows = [{name: SAYS["no"] for name in "abcdef"} for _ in range(2)]
        rows[0]["a"], rows[0]["f"] = SAYS["error"], SAYS["yes"]
        rows[1]["b"], rows[1]["e"] = SAYS["error"], SAYS["yes"]
        guards = [(5, 3), (3, 0), (4, 1)]
        self.assertEqual(self.check(FREE, condition, rows, guards), (True, False))
        self.assertEqual(self.check(FREE, condition, rows, guards[1:]), (False, False))
        self.assertEqual(self.check(FREE, condition, rows, guards + [(2, 5)]), (True, True))

    def test_no_guards(self):
        self.assertIs(is_guarded(FREE, BOTH, ROWS[1:], []), True)
        self.assertIs(is_guarded(FREE, BOTH, ROWS, []), False)
        for kind in ("all", "any"):
            self.assertIs(is_guarded(FREE, (kind, ()), [{}], []), True)
            self.assertIsNone(gap(FREE, (kind, ()), [{}], []))
            self.assertEqual(needless(FREE, (kind, ()), [{}], []), [])
        self.assertIs(is_guarded(FREE, BOTH, [], []), True)

    def test_is_gap(self):
        self.assertEqual(gap(FREE, BOTH, ROWS, []), ([0, 1], 0))
        self.assertIs(is_gap(FREE, BOTH, ROWS, [], ([0, 1], 0)), True)
        for thing in any_things() + [
                ([0, 1], 1), ([1, 0], 0), ([0, 1], 2), ([0, 1], -2), ([0, 1], False), ([0, 1], None), ((0, 1), 0),
                [[0, 1], 0], ([0, 1],), ([0, 1], 0, 0), ([False, True], 0), ([0], 0), ([0, 1, 1], 0), ([0, 0], 0),
                ([0, 2], 0), (None, 0), ([0, 1], "0"), ("01", 0), ([0, 1], [0]), ([[0], [1]], 0), ({0: 0, 1: 1}, 0)]:
            self.assertIs(is_gap(FREE, BOTH, ROWS, [], thing), False, str(thing)[:60])
        self.assertIs(is_gap(FREE, BOTH, ROWS, [(1, 0)], ([0, 1], 0)), False)

    def test_unknown(self):
        rows = [{"a": SAYS["error"], "b": SAYS["unknown"]}]
        condition = ("all", (leaf("a"), leaf("b")))
        self.assertEqual([is_guarded(FREE, condition, rows, [(1, 0)]), is_guarded(UNKNOWN, condition, rows, [(1, 0)])],
                         [False, True])
        self.assertEqual([guards_for(FREE, condition, rows), least_guards(UNKNOWN, condition, rows)], [None, [[(1, 0)]]])

    def test_told_things_changed_between(self):
        guards, rows, found = [(1, 0)], [{"n": 0}], []
        for change in ("none", "guards", "rows"):
            if change == "guards":
                guards.pop()
            elif change == "rows":
                rows[0]["n"] = 5
            found.append((is_guarded(FREE, BOTH, rows, guards), gap(FREE, BOTH, rows, guards),
                          needless(FREE, BOTH, rows, guards), leading(BOTH, guards, 0), guards_for(FREE, BOTH, rows),
                          least_guards(FREE, BOTH, rows), cheapest(FREE, BOTH, rows, {})))
        least = [[(1, 0)]]
        self.assertEqual(found[:2], [(True, None, [], [1], found[0][4], least, (1, [(1, 0)])),
                                     (False, ([0, 1], 0), [], [], found[0][4], least, (1, [(1, 0)]))])
        self.assertEqual(found[2][:4] + found[2][5:], (True, None, [], [], [[]], (0, [])))


class LeastTest(unittest.TestCase):

    def check(self, planner, condition, rows, source):
        right = Right(planner, condition, rows)
        safe = [order for order, said in right.said.items() if "error" not in said]
        for _ in range(2):
            found = guards_for(planner, condition, rows)
            if not safe:
                self.assertIsNone(found)
                continue
            self.assertEqual(len(set(found)), len(found))
            self.assertTrue(set(found) <= set(right.pairs))
            self.assertTrue(right.kept(found) and right.is_guarded(found))
            found.append(9)
        every = [guards for guards in right.all_guards()]
        least = sorted([list(guards) for guards in every if right.is_least(guards)])
        for _ in range(2):
            found = least_guards(planner, condition, rows)
            self.assertEqual(found, least)
            for guards in found:
                guards.append(9)
        for chance in (0, 0.5, 1):
            prices = {pair: source.randrange(5) for pair in right.pairs if source.random() < chance}
            self.check_price(planner, condition, rows, prices, every)
        return len(least), bool(safe)

    def check_price(self, planner, condition, rows, prices, every):
        told = dict(prices)
        for _ in range(2):
            found = cheapest(planner, condition, rows, prices)
            self.assertEqual(prices, told)
            if not every:
                self.assertIsNone(found)
                continue
            price, guards = found
            self.assertIsInstance(found, tuple)
            self.assertEqual(price, min(sum(prices.get(pair, 1) for pair in some) for some in every))
            self.assertEqual(price, sum(prices.get(pair, 1) for pair in guards))
            self.assertEqual(guards, sorted(guards))
            self.assertIn(tuple(guards), every)
            guards.append(9)

    def test_flat_frames(self):
        source, seen = random.Random(163), set()
        for _ in range(250):
            frame = make_flat(source, always=0.03)
            if len(frame.condition[1]) <= 3:
                seen.add(self.check(source.choice(FREES), frame.condition, frame.mild_rows(4), source))
        self.assertIn((0, False), seen)
        self.assertGreater(len(seen), 3)

    def test_four_parts(self):
        source, seen, done = random.Random(164), set(), 0
        while done < 8:
            frame = make_flat(source)
            rows = frame.mild_rows(2)
            if len(frame.condition[1]) == 4 and len(rows) == 2:
                done += 1
                seen.add(self.check(FREE, frame.condition, rows, source)[0])
        self.assertGreater(max(seen), 2)

    def test_guards_that_lead_over_others(self):
        # One row at which the first part errs and the last one decides: a guard, or a way over the others.
        rows = [{"a": SAYS["error"], "b": SAYS["yes"], "c": SAYS["yes"], "d": SAYS["no"]}]
        self.assertEqual(least_guards(FREE, FOUR, rows), [
            [(1, 0), (2, 1), (3, 2)], [(1, 0), (3, 1)], [(1, 2), (2, 0), (3, 1)], [(2, 0), (3, 2)], [(3, 0)]])
        self.assertEqual(cheapest(FREE, FOUR, rows, {}), (1, [(3, 0)]))
        self.assertEqual(cheapest(FREE, FOUR, rows, {(3, 0): 3}), (2, [(1, 0), (3, 1)]))
        self.assertEqual(cheapest(FREE, FOUR, rows, {(3, 0): 3, (3, 1): 5, (3, 2): 0}), (1, [(2, 0), (3, 2)]))
        price, guards = cheapest(FREE, FOUR, rows, {(3, 0): 9, (1, 0): 0, (2, 1): 0, (3, 2): 0, (2, 0): 1, (3, 1): 1})
        self.assertEqual((price, [(1, 0), (2, 1), (3, 2)]), (0, [guard for guard in guards if guard in (
            (1, 0), (2, 1), (3, 2))]))

    def test_none_needed(self):
        for rows in ([], [{"n": 3}]):
            self.assertEqual([least_guards(FREE, BOTH, rows), cheapest(FREE, BOTH, rows, {(0, 1): 4})], [[[]], (0, [])])
            self.assertEqual(guards_for(FREE, BOTH, rows), [])
        self.assertEqual([guards_for(FREE, ("any", ()), [{}]), least_guards(FREE, ("any", ()), [{}])], [[], [[]]])

    def test_no_order_is_safe(self):
        for rows, condition in (([{"n": 0}], ("any", (TENS, SOME))), ([{}], ("all", (always("error"),)))):
            self.assertEqual([guards_for(FREE, condition, rows), least_guards(FREE, condition, rows),
                              cheapest(FREE, condition, rows, {})], [None, [], None])

    def test_guards_for_six_parts(self):
        source = random.Random(165)
        condition = ("all", tuple([leaf(name) for name in "abcdef"]))
        for _ in range(30):
            order = source.sample(range(6), 6)
            rows = []
            for _ in range(8):
                row = {name: source.choice((0, 1, 2, 1)) for name in "abcdef"}
                said = [row["abcdef"[part]] for part in order]
                if 2 not in said or 0 in said[:said.index(2)]:
                    rows.append(row)
            found = guards_for(FREE, condition, rows)
            self.assertEqual([is_guarded(FREE, condition, rows, found), gap(FREE, condition, rows, found)], [True, None])

    def test_folds_means_nothing(self):
        condition = ("any", (always("error"), leaf("a")))
        rows = [{"a": SAYS["yes"]}]
        for planner in FREES:
            self.assertEqual([is_guarded(planner, condition, rows, [(1, 0)]), least_guards(planner, condition, rows),
                              cheapest(planner, condition, rows, {(1, 0): 0})], [True, [[(1, 0)]], (0, [(1, 0)])])


if __name__ == "__main__":
    unittest.main()
