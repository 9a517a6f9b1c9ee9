"""Point [23]: steps."""

import itertools
import random
import unittest

from refusedahead.errors import Errs
from refusedahead.spans import Spans
from refusedahead.steps import are_steps, before, erring, is_step, step_on, steps_on
from tests.things import LONG_NUMBER, any_things

BOUND = 10 ** 12
WIDE = range(-40, 41)
SOME_STEPS = [
    ("plus", 0), ("plus", 3), ("plus", -7), ("times", 1), ("times", -1), ("times", 3), ("times", -2),
    ("into", 1), ("into", 2), ("into", 5), ("over", 0), ("over", 1), ("over", -1), ("over", 10), ("over", -12),
    ("found", ()), ("found", ((-3, 5), (0, 0), (2, -4))), ("found", ((1, 7), (2, 7), (3, 7))),
]
SOME_SPANS = [
    [], [(None, None)], [(0, 0)], [(1, 1)], [(-1, -1)], [(-3, 2)], [(4, None)], [(None, -2)], [(None, 0)],
    [(None, -5), (-1, 0), (3, 8)], [(-9, -4), (7, None)], [(None, -1), (1, None)], [(5, 7)], [(-2, None)],
]


def led(step, number):
    """Where a step leads, told once more by itself, or None where it errs."""
    kind, worth = step
    if kind == "found":
        return dict(worth).get(number)
    if kind == "over":
        return None if number == 0 else worth // number
    return {"plus": number + worth, "times": number * worth, "into": number // max(worth, 1)}[kind]


def led_by_all(steps, number):
    """Where steps lead, as a tuple (number, None), or (None, number) where one errs."""
    for step in steps:
        at, number = number, led(step, number)
        if number is None:
            return None, at
    return number, None


class FormTest(unittest.TestCase):

    def test_is_step(self):
        right = SOME_STEPS + [
            ("plus", BOUND), ("plus", -BOUND), ("times", BOUND), ("times", -BOUND), ("into", BOUND),
            ("over", BOUND), ("over", -BOUND), ("found", ((-BOUND, BOUND), (BOUND, -BOUND))),
            ("found", tuple([(n, n) for n in range(500)])),
        ]
        wrong = any_things() + [
            ("plus", BOUND + 1), ("plus", -BOUND - 1), ("times", 0), ("times", BOUND + 1), ("into", 0),
            ("into", -1), ("into", BOUND + 1), ("over", BOUND + 1), ("over", -BOUND - 1), ("plus", LONG_NUMBER),
            ("plus", True), ("times", True), ("into", True), ("over", False), ("plus", None), ("plus", "a"),
            ("plus",), ("plus", 1, 1), ["plus", 1], ("minus", 1), ("", 1), (1, 1), (None, 1), ("plus", (1,)),
            (("plus",), 1), ("found", []), ("found", None), ("found", 1), ("found", ((1, 2), (1, 2))),
            ("found", ((1, 2), (1, 3))), ("found", ((2, 1), (1, 1))), ("found", ([1, 2],)), ("found", ((1,),)),
            ("found", ((1, 2, 3),)), ("found", (1, 2)), ("found", ((True, 2),)), ("found", ((1, False),)),
            ("found", ((1, "a"),)), ("found", (("a", 1),)), ("found", ((BOUND + 1, 1),)),
            ("found", ((1, -BOUND - 1),)), ("found", ((1, None),)), ("found", {1: 2}), ("found", ((1, 2), 3)),
            ("times", (1,)), ("over", ()), ("found", ((1, 2), (3, 4), (2, 5))),
        ]
        for thing in right:
            self.assertIs(is_step(thing), True, thing)
        for thing in wrong:
            self.assertIs(is_step(thing), False, str(thing)[:60])

    def test_are_steps(self):
        for thing in [(), (("plus", 1),), (("plus", 1), ("over", 0)), tuple(SOME_STEPS), (("into", 1),) * 1000]:
            self.assertIs(are_steps(thing), True)
        wrong = [thing for thing in any_things() if thing != ()] + [
            [("plus", 1)], ("plus", 1), (("plus", 1), 1), (("plus", 1), ("times", 0)), (["plus", 1],), ((),),
            {("plus", 1): 1}, ((("plus", 1),),), [],
        ]
        for thing in wrong:
            self.assertIs(are_steps(thing), False, str(thing)[:60])


class LeadingTest(unittest.TestCase):

    def check_errs(self, number, call, *args):
        with self.assertRaises(Errs) as caught:
            call(*args)
        self.assertEqual(caught.exception.number, number)

    def test_step_on(self):
        for step in SOME_STEPS:
            for number in WIDE:
                right = led(step, number)
                if right is None:
                    self.check_errs(number, step_on, step, number)
                else:
                    self.assertEqual(step_on(step, number), right, (step, number))

    def test_rounded_down(self):
        self.assertEqual([step_on(("into", 3), n) for n in (-4, -3, -1, 0, 2, 3)], [-2, -1, -1, 0, 0, 1])
        self.assertEqual([step_on(("over", 10), n) for n in (-3, 3, -11, 11)], [-4, 3, -1, 0])
        self.assertEqual([step_on(("over", -10), n) for n in (-3, 3)], [3, -4])

    def test_far_out(self):
        self.assertEqual(step_on(("times", BOUND), LONG_NUMBER), LONG_NUMBER * BOUND)
        self.assertEqual(step_on(("plus", -BOUND), -LONG_NUMBER), -LONG_NUMBER - BOUND)
        self.assertEqual(step_on(("into", BOUND), -1), -1)
        self.assertEqual(steps_on((("times", -BOUND),) * 4, BOUND), BOUND ** 5)

    def test_steps_on(self):
        self.assertEqual(steps_on((), 5), 5)
        source = random.Random(11)
        for _ in range(400):
            steps = tuple(source.choices(SOME_STEPS, k=source.randrange(5)))
            for number in range(-12, 13):
                reached, erred = led_by_all(steps, number)
                if reached is None:
                    self.check_errs(erred, steps_on, steps, number)
                else:
                    self.assertEqual(steps_on(steps, number), reached)

    def test_the_number_on_the_way(self):
        self.check_errs(0, steps_on, (("plus", -4), ("over", 3)), 4)
        self.check_errs(12, steps_on, (("times", 3), ("found", ((4, 1),))), 4)
        self.check_errs(4, steps_on, (("found", ()), ("over", 0)), 4)


class BeforeTest(unittest.TestCase):

    def check(self, steps, pairs):
        spans, failing = Spans(pairs), erring(steps)
        for _ in range(2):
            found = before(steps, spans)
            self.assertIs(type(found), Spans)
            for number in WIDE:
                reached, _ = led_by_all(steps, number)
                self.assertIs(number in failing, reached is None, (steps, number))
                self.assertIs(number in found, reached is not None and reached in spans, (steps, pairs, number))
            found.pairs().clear()
        self.assertEqual(spans, Spans(pairs))

    def test_no_step(self):
        self.assertEqual(erring(()).pairs(), [])
        for pairs in SOME_SPANS:
            self.check((), pairs)
            self.assertEqual(before((), Spans(pairs)).pairs(), Spans(pairs).pairs())

    def test_one_step(self):
        for step, pairs in itertools.product(SOME_STEPS, SOME_SPANS):
            self.check((step,), pairs)

    def test_two_steps(self):
        for steps in itertools.product(SOME_STEPS, repeat=2):
            for pairs in SOME_SPANS[2::3]:
                self.check(steps, pairs)

    def test_up_to_four_steps(self):
        source = random.Random(12)
        for _ in range(400):
            steps = tuple(source.choices(SOME_STEPS, k=source.randrange(3, 5)))
            self.check(steps, source.choice(SOME_SPANS))

    def test_ends_that_are_none(self):
        everything = Spans([(None, None)])
        self.assertEqual(before((("over", 10),), everything).pairs(), [(None, -1), (1, None)])
        self.assertEqual(before((("times", -3),), Spans([(4, None)])).pairs(), [(None, -2)])
        self.assertEqual(before((("times", 3),), Spans([(None, 4)])).pairs(), [(None, 1)])
        self.assertEqual(before((("into", 3),), Spans([(None, 4)])).pairs(), [(None, 14)])
        self.assertEqual(before((("over", 0),), Spans([(0, 0)])).pairs(), [(None, -1), (1, None)])
        self.assertEqual(before((("over", 0),), Spans([(1, None)])).pairs(), [])
        self.assertEqual(before((("over", 7),), Spans([(0, 0)])).pairs(), [(8, None)])
        self.assertEqual(before((("over", 7),), Spans([(-1, -1)])).pairs(), [(None, -7)])

    def test_no_integer_goes_there(self):
        self.assertEqual(before((("times", 4),), Spans([(1, 3)])).pairs(), [])
        self.assertEqual(before((("times", -4),), Spans([(-3, -1)])).pairs(), [])
        self.assertEqual(before((("over", 10),), Spans([(6, 9)])).pairs(), [])

    def test_at_the_bounds(self):
        self.assertEqual(before((("over", BOUND),), Spans([(BOUND, BOUND)])).pairs(), [(1, 1)])
        self.assertEqual(before((("over", -BOUND),), Spans([(BOUND, BOUND)])).pairs(), [(-1, -1)])
        self.assertEqual(before((("times", BOUND),) * 4, Spans([(0, BOUND ** 5)])).pairs(), [(0, BOUND)])
        self.assertEqual(before((("into", BOUND),), Spans([(1, 1)])).pairs(), [(BOUND, 2 * BOUND - 1)])
        half = (("over", BOUND), ("into", 3), ("plus", -5))
        found = before(half, Spans([(0, 9)]))
        for low, high in found.pairs():
            for number, inside in ((low - 1, False), (low, True), (high, True), (high + 1, False)):
                self.assertIs(steps_on(half, number) in Spans([(0, 9)]), inside)

    def test_erring(self):
        self.assertEqual(erring((("over", 3), ("over", 5))).pairs(), [(0, 0), (4, None)])
        self.assertEqual(erring((("found", ((0, 7), (2, 9))),)).pairs(), [(None, -1), (1, 1), (3, None)])
        self.assertEqual(erring((("found", ()),)).pairs(), [(None, None)])
        self.assertEqual(erring((("plus", 1), ("times", -2), ("into", 9))).pairs(), [])
        self.assertEqual(erring((("times", 2), ("plus", 1), ("over", 8))).pairs(), [])
        for _ in range(2):
            found = erring((("over", 3),))
            self.assertEqual(found.pairs(), [(0, 0)])
            found.pairs().clear()


if __name__ == "__main__":
    unittest.main()
