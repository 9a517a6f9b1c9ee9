"""Points [22] and [23] asked often: what steps lead where, by steps_on, number by number."""

import random
import unittest

from refusedahead.errors import Errs
from refusedahead.spans import Spans
from refusedahead.steps import before, erring, steps_on

BOUND = 10 ** 12
NUMBERS = list(range(-25, 26)) + [BOUND, -BOUND, 10 * BOUND + 7]


def single_steps():
    """All single steps of the kinds that are asked often."""
    found = [(kind, k) for k in range(-1000, 1001) for kind in ("over", "plus")]
    for d in range(1, 41):
        found += [("into", d), ("times", -d), ("times", d), ("over", BOUND - d)]
    return found


def make_steps(source, most):
    """Up to four steps, those that look a number up among them."""
    singles = single_steps()
    found = []
    for _ in range(source.randrange(most + 1)):
        keys = sorted(source.sample(range(-30, 31), source.randrange(7)))
        goals = tuple([(key, source.choice((source.randrange(-20, 21), BOUND))) for key in keys])
        found.append(source.choice((("found", goals), source.choice(singles), source.choice(singles[-160:]))))
    return tuple(found)


def make_end(source):
    return source.choice((source.randrange(-30, 31), BOUND - source.randrange(9)))


def make_pairs(source, most):
    """The pairs of a Spans of one stretch, or up to five that lie over one another."""
    n = make_end(source)
    one = source.choice(([(n, n)], [(None, n)], [(n, None)], [(-abs(n), abs(n) // 2)]))
    found = []
    for _ in range(source.randrange(most + 1)):
        low, high = sorted([make_end(source), make_end(source)])
        found.append((source.choice((low, low, low, None)), source.choice((high, high, high, None))))
    return found or one


def inside(pairs, number):
    """Whether a number lies in one of the pairs, told once more by itself."""
    return any((low is None or low <= number) and (high is None or number <= high) for low, high in pairs)


def how_many(stretches):
    """How many integers lie in stretches that do not touch, or None."""
    if any(low is None or high is None for low, high in stretches):
        return None
    return sum(high - low + 1 for low, high in stretches)


class OftenTest(unittest.TestCase):

    def check_form(self, spans):
        stretches = spans.pairs()
        self.assertEqual([len(spans), list(spans), spans.many()], [len(stretches), stretches, how_many(stretches)])
        for low, high in stretches:
            self.assertTrue(low is None or high is None or low <= high)
        for one, other in zip(stretches, stretches[1:]):
            self.assertLess(one[1] + 1, other[0])
        stretches.append((None, None))
        self.assertEqual(spans.pairs(), stretches[:-1])

    def numbers(self, pairs):
        """The numbers that are asked: those around 0, and each end and those beside it."""
        ends = {end for pair in pairs for end in pair if end is not None}
        return NUMBERS + sorted({end + more for end in ends for more in (-1, 0, 1)})

    def check(self, steps, pairs):
        spans = Spans(pairs)
        many, failing = [before(steps, spans) for _ in range(4)], [erring(steps) for _ in range(3)]
        for number in self.numbers(pairs + many[0].pairs() + failing[0].pairs()):
            try:
                right = (inside(pairs, steps_on(steps, number)), False)
            except Errs:
                right = (False, True)
            self.assertEqual((number in many[0], number in failing[0]), right, (steps, pairs, number))
        for found in (many, failing):
            self.check_form(found[0])
            for other in found[1:]:
                self.assertIs(found[0] == other, True)
                self.assertEqual(found[0].pairs(), other.pairs())
            self.assertEqual(Spans(found[0].pairs()[::-1]), found[0])
        self.assertIs(many[0] == failing[0], many[0].pairs() == failing[0].pairs())
        self.assertEqual((many[0] & failing[0]).pairs(), [])
        self.assertEqual(spans, Spans(pairs[::-1]))

    def test_each_single_step(self):
        source = random.Random(171)
        for step in single_steps():
            self.check((step,), make_pairs(source, 0))

    def test_each_single_stretch(self):
        source, singles = random.Random(172), single_steps()
        for n in list(range(-30, 31)) + list(range(BOUND - 8, BOUND + 1)):
            for pairs in ([(n, n)], [(None, n)], [(n, None)], [(-abs(n), abs(n) // 2)]):
                self.check((), pairs)
                for _ in range(4):
                    self.check((source.choice(singles),), pairs)
                self.check((source.choice(singles[-160:]),), pairs)

    def test_more_steps_and_stretches(self):
        source = random.Random(173)
        for _ in range(1500):
            self.check(make_steps(source, 4), make_pairs(source, 5))

    def test_spans_by_themselves(self):
        source = random.Random(174)
        for _ in range(1500):
            pairs = make_pairs(source, 5)
            spans = Spans(pairs)
            self.check_form(spans)
            for number in self.numbers(pairs):
                self.assertIs(number in spans, inside(pairs, number))

    def test_many_stretches(self):
        spans = Spans([(3 * n, 3 * n + 1) for n in range(400)])
        for number in range(-3, 1205):
            self.assertIs(number in spans, 0 <= number < 1200 and number % 3 < 2)
        halves = before((("into", 2),), spans)
        self.assertEqual([len(halves), halves.many()], [400, 1600])
        self.assertEqual(before((("times", -3),), spans).pairs(), [(-399, 0)])


if __name__ == "__main__":
    unittest.main()
