"""Point [22]: sets of integers."""

import itertools
import random
import unittest

from refusedahead.errors import Wrong
from refusedahead.spans import Spans
from tests.things import LONG_NUMBER, any_things

WIDE = range(-15, 16)
ENDS = (None, -4, -1, 0, 2, 5)


def members(pairs):
    """The integers of WIDE that lie in pairs, by going through them all."""
    return {n for n in WIDE for low, high in pairs
            if (low is None or low <= n) and (high is None or n <= high)}


def some_pairs(source, many):
    """A list of many pairs within WIDE, in no order."""
    found = []
    for _ in range(many):
        low, high = sorted([source.randrange(-9, 10), source.randrange(-9, 10)])
        found.append((source.choice([low, low, low, low, None]), source.choice([high, high, high, high, None])))
    return found


def all_pairs():
    return [(low, high) for low in ENDS for high in ENDS if low is None or high is None or low <= high]


class MakingTest(unittest.TestCase):

    def check(self, pairs, stretches):
        for given in (list(pairs), tuple(pairs)):
            spans = Spans(given)
            for _ in range(2):
                self.assertEqual(spans.pairs(), stretches)
                self.assertEqual(list(spans), stretches)
                self.assertEqual(len(spans), len(stretches))

    def test_joined(self):
        self.check([], [])
        self.check([(1, 1)], [(1, 1)])
        self.check([(4, 6), (1, 3)], [(1, 6)])
        self.check([(4, 6), (1, 2)], [(1, 2), (4, 6)])
        self.check([(1, 9), (2, 3)], [(1, 9)])
        self.check([(2, 3), (1, 9), (5, 12)], [(1, 12)])
        self.check([(1, 3), (1, 3)], [(1, 3)])
        self.check([(1, None), (-2, 0)], [(-2, None)])
        self.check([(1, None), (-2, -1)], [(-2, -1), (1, None)])
        self.check([(None, 3), (None, 7), (9, 9)], [(None, 7), (9, 9)])
        self.check([(5, None), (3, 7), (None, 1)], [(None, 1), (3, None)])
        self.check([(1, None), (None, 0)], [(None, None)])
        self.check([(3, 4), (None, None)], [(None, None)])
        self.check([(None, -1), (1, None)], [(None, -1), (1, None)])
        self.check([(-LONG_NUMBER, LONG_NUMBER)], [(-LONG_NUMBER, LONG_NUMBER)])

    def test_any_two_and_three_pairs(self):
        for pairs in itertools.product(all_pairs(), repeat=2):
            self.check_form(pairs)
        source = random.Random(1)
        for _ in range(300):
            self.check_form(some_pairs(source, source.randrange(7)))

    def check_form(self, pairs):
        found = Spans(pairs).pairs()
        self.assertEqual(members(found), members(pairs))
        for low, high in found:
            self.assertIsInstance((low, high), tuple)
            self.assertTrue(low is None or high is None or low <= high)
        for one, other in zip(found, found[1:]):
            self.assertLess(one[1] + 1, other[0])

    def test_hundreds_of_stretches(self):
        pairs = [(10 * n, 10 * n + 8) for n in range(500)]
        random.Random(2).shuffle(pairs)
        spans = Spans(pairs)
        self.assertEqual(spans.pairs(), sorted(pairs))
        self.assertEqual([len(spans), spans.many(), len(~spans)], [500, 4500, 501])
        self.assertEqual((spans | Spans([(10 * n + 9, 10 * n + 9) for n in range(500)])).pairs(), [(0, 4999)])
        self.assertEqual((spans & spans).pairs(), sorted(pairs))
        self.assertEqual((spans - spans).pairs(), [])

    def test_what_was_passed_is_copied(self):
        pairs = [(1, 2)]
        spans = Spans(pairs)
        pairs.append((7, 8))
        pairs[0] = (4, 4)
        self.assertEqual(spans.pairs(), [(1, 2)])

    def test_what_is_passed_stays(self):
        pairs = [(4, 6), (1, 3)]
        Spans(pairs)
        self.assertEqual(pairs, [(4, 6), (1, 3)])

    def test_what_was_told_may_be_changed(self):
        spans = Spans([(1, 2), (5, None)])
        spans.pairs().clear()
        self.assertEqual(spans.pairs(), [(1, 2), (5, None)])
        self.assertIsNot(spans.pairs(), spans.pairs())

    def test_wrong(self):
        wrong = [thing for thing in any_things() if thing not in ([], (), [(1, 2)], ((1, 2),))] + [
            [(2, 1)], [(1, 2), (2, 1)], [(True, 2)], [(0, True)], [(False, None)], [("a", 2)], [(1, "b")],
            [[1, 2]], [(1,)], [(1, 2, 3)], [()], [None], [1], "ab", {(1, 2): 1}, {(1, 2)}, (1, 2), [(1, [2])],
            [((1,), 2)], ([1, 2],), [(LONG_NUMBER, -LONG_NUMBER)], Spans([(1, 2)]), [(1, 2), None],
        ]
        for thing in wrong:
            with self.subTest(thing=str(thing)[:60]):
                with self.assertRaises(Wrong) as caught:
                    Spans(thing)
                self.assertEqual(caught.exception.place, 0)
                self.assertIs(type(caught.exception.place), int)


class UsingTest(unittest.TestCase):

    def test_in(self):
        source = random.Random(3)
        for _ in range(200):
            pairs = some_pairs(source, source.randrange(5))
            spans = Spans(pairs)
            for n in WIDE:
                self.assertIs(n in spans, n in members(pairs))
        self.assertIs(LONG_NUMBER in Spans([(0, None)]), True)
        self.assertIs(-LONG_NUMBER in Spans([(0, None)]), False)

    def test_truths_are_not_in(self):
        self.assertEqual([True in Spans([(None, None)]), False in Spans([(0, 1)])], [False, False])

    def test_operators(self):
        source = random.Random(4)
        for _ in range(300):
            one, other = some_pairs(source, source.randrange(5)), some_pairs(source, source.randrange(5))
            first, second = Spans(one), Spans(other)
            ones, others = members(one), members(other)
            for _ in range(2):
                for found, right in (
                        (first | second, ones | others), (first & second, ones & others),
                        (first - second, ones - others), (~first, set(WIDE) - ones)):
                    self.assertIs(type(found), Spans)
                    self.assertEqual(members(found.pairs()), right)
                    self.assertEqual(Spans(found.pairs()).pairs(), found.pairs())
                    found.pairs().clear()
            self.assertEqual([first.pairs(), second.pairs()], [Spans(one).pairs(), Spans(other).pairs()])

    def test_operators_without_integers(self):
        none, everything = Spans([]), Spans([(None, None)])
        self.assertEqual([(~none).pairs(), (~everything).pairs()], [[(None, None)], []])
        self.assertEqual([(none | none).pairs(), (none & everything).pairs(), (everything - none).pairs()],
                         [[], [], [(None, None)]])

    def test_equal(self):
        same = [Spans([(1, 3)]), Spans([(2, 3), (1, 1)]), Spans(((1, 2), (3, 3)))]
        for one in same:
            for other in same:
                self.assertIs(one == other, True)
                self.assertIs(one != other, False)
        for other in (Spans([]), Spans([(1, 2)]), Spans([(None, 3)]), Spans([(1, None)])):
            self.assertIs(same[0] == other, False)
            self.assertIs(same[0] != other, True)
            self.assertIs(other == same[0], False)

    def test_equal_to_nothing_else(self):
        for thing in any_things() + [[(1, 3)], ((1, 3),), 1]:
            if not isinstance(thing, Spans):
                self.assertIs(Spans([(1, 3)]) == thing, False)
                self.assertIs(Spans([(1, 3)]) != thing, True)
                self.assertIs(thing == Spans([(1, 3)]), False)
                self.assertIs(Spans([]) == thing, False)

    def test_least(self):
        for pairs, right in (
                ([], None), ([(None, None)], 0), ([(0, 0)], 0), ([(3, 5)], 3), ([(-5, -3)], -3),
                ([(-5, -3), (3, 4)], 3), ([(-5, -2), (3, 4)], -2), ([(None, -7), (9, None)], -7),
                ([(None, -7), (7, None)], 7), ([(-1, -1), (1, 1)], 1), ([(-4, 1)], 0), ([(-9, -9), (-2, -1)], -1),
                ([(2, 2), (4, 4)], 2), ([(-LONG_NUMBER, -LONG_NUMBER)], -LONG_NUMBER)):
            spans = Spans(pairs)
            self.assertEqual([spans.least(), spans.least()], [right, right])

    def test_least_by_going_through_all(self):
        source = random.Random(5)
        for _ in range(200):
            spans = Spans(some_pairs(source, source.randrange(5))).within(-15, 15)
            right = sorted(members(spans.pairs()), key=lambda n: (abs(n), -n))[:1]
            self.assertEqual(spans.least(), right[0] if right else None)

    def test_many(self):
        for pairs, right in (
                ([], 0), ([(1, 1)], 1), ([(-3, 3), (5, 6)], 9), ([(None, 1)], None), ([(1, None)], None),
                ([(None, None)], None), ([(1, 2), (9, None)], None), ([(0, LONG_NUMBER)], LONG_NUMBER + 1),
                ([(None, -9), (1, 2)], None)):
            spans = Spans(pairs)
            self.assertEqual([spans.many(), spans.many()], [right, right])

    def test_is_within(self):
        source = random.Random(6)
        for _ in range(400):
            one, other = some_pairs(source, source.randrange(3)), some_pairs(source, source.randrange(4))
            right = members(one) <= members(other)
            self.assertIs(Spans(one).is_within(Spans(other)), right)
        self.assertIs(Spans([]).is_within(Spans([])), True)
        self.assertIs(Spans([(1, None)]).is_within(Spans([(1, LONG_NUMBER)])), False)

    def test_within(self):
        source = random.Random(7)
        for _ in range(300):
            pairs = some_pairs(source, source.randrange(5))
            low, high = sorted([source.randrange(-12, 13), source.randrange(-12, 13)])
            spans = Spans(pairs)
            found = spans.within(low, high)
            self.assertIs(type(found), Spans)
            self.assertEqual(members(found.pairs()), members(pairs) & set(range(low, high + 1)))
            found.pairs().clear()
            self.assertEqual(spans.within(low, high), found)
            self.assertEqual(spans, Spans(pairs))


if __name__ == "__main__":
    unittest.main()
