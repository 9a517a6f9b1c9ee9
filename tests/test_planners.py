"""Point [51]: planners."""

import itertools
import unittest

from refusedahead.errors import Wrong
from refusedahead.planners import Planner, all_planners
from tests.planning import MODES, right_planners
from tests.things import any_things

TRUTHS = ("unknown", "folds", "beneath", "early")
COMBINATIONS = list(itertools.product((False, True), repeat=4))


def told(planner):
    """All five of a Planner, as a tuple."""
    return (planner.mode, planner.unknown, planner.folds, planner.beneath, planner.early)


def make(told_five):
    """The Planner with these five."""
    return Planner(told_five[0], **dict(zip(TRUTHS, told_five[1:])))


EVERY = [(mode,) + truths for mode in MODES for truths in COMBINATIONS]


class MakingTest(unittest.TestCase):

    def check_wrong(self, place, call, *args, **more):
        with self.assertRaises(Wrong) as caught:
            call(*args, **more)
        self.assertEqual(caught.exception.place, place)
        self.assertIs(type(caught.exception.place), int)

    def test_properties(self):
        for five in EVERY:
            planner = make(five)
            for _ in range(2):
                self.assertEqual(told(planner), five)
                self.assertEqual([type(worth) for worth in told(planner)[1:]], [bool] * 4)

    def test_what_is_left_out_is_false(self):
        for mode in MODES:
            self.assertEqual(told(Planner(mode)), (mode, False, False, False, False))
            for index, word in enumerate(TRUTHS):
                right = [mode] + [place == index for place in range(4)]
                self.assertEqual(told(Planner(mode, **{word: True})), tuple(right))

    def test_truths_are_passed_by_keyword(self):
        with self.assertRaises(TypeError):
            Planner("free", True)

    def test_properties_are_not_assigned(self):
        for word in ("mode",) + TRUTHS:
            with self.assertRaises(AttributeError):
                setattr(Planner("free"), word, True)

    def test_wrong_mode(self):
        for thing in any_things() + ["Free", "free ", ["free"], ("free",), "fre", "texts", {"free": 1}]:
            self.check_wrong(0, Planner, thing)
            self.check_wrong(0, Planner, thing, unknown=1, early=0)
            self.check_wrong(0, Planner("free").with_mode, thing)

    def test_wrong_truths(self):
        for thing in any_things() + [0, 1, None, "True", [True], (False,)]:
            if isinstance(thing, bool):
                continue
            for index, word in enumerate(TRUTHS):
                self.check_wrong(index + 1, Planner, "text", **{word: thing})
                self.check_wrong(1, Planner("text").with_truth, word, thing)

    def test_the_first_wrong_one(self):
        for wrong in itertools.product((False, True), repeat=4):
            if True in wrong:
                more = {word: 0 if bad else True for word, bad in zip(TRUTHS, wrong)}
                self.check_wrong(wrong.index(True) + 1, Planner, "free", **dict(sorted(more.items())))
                self.check_wrong(0, Planner, "any", **more)

    def test_with_mode(self):
        for five, mode in itertools.product(EVERY, MODES):
            elder = make(five)
            for _ in range(2):
                found = elder.with_mode(mode)
                self.assertEqual(told(found), (mode,) + five[1:])
                self.assertEqual(told(elder), five)
                self.assertIsNot(found, elder)

    def test_with_truth(self):
        for five, index, truth in itertools.product(EVERY, range(4), (False, True)):
            elder = make(five)
            for _ in range(2):
                found = elder.with_truth(TRUTHS[index], truth)
                self.assertEqual(told(found), five[:index + 1] + (truth,) + five[index + 2:])
                self.assertEqual(told(elder), five)

    def test_with_truth_of_a_wrong_word(self):
        for thing in any_things() + ["mode", "Unknown", "fold", ["folds"], ("early",), "truths"]:
            if thing != "unknown":
                self.check_wrong(0, Planner("text").with_truth, thing, True)
                self.check_wrong(0, Planner("text").with_truth, thing, 1)


class ComparingTest(unittest.TestCase):

    def test_equal(self):
        for one, other in itertools.product(EVERY, EVERY):
            self.assertIs(make(one) == make(other), one == other)
            self.assertIs(make(one) != make(other), one != other)

    def test_equal_to_nothing_else(self):
        for five in EVERY[::7]:
            for thing in any_things() + [five, five[0], list(five)]:
                self.assertIs(make(five) == thing, False)
                self.assertIs(thing == make(five), False)
                self.assertIs(make(five) != thing, True)

    def test_is_within(self):
        for one, other in itertools.product(EVERY, EVERY):
            right = one[0] in ("text", other[0]) and (one[1] or not other[1])
            for index in (2, 3, 4):
                right = right and (other[index] or not one[index])
            self.assertIs(make(one).is_within(make(other)), right)

    def test_all_planners(self):
        for _ in range(2):
            found = all_planners()
            self.assertEqual([told(planner) for planner in found], EVERY)
            self.assertEqual(found, right_planners())
            self.assertEqual(len(found), 48)
            self.assertEqual([told(planner) for planner in found], sorted(EVERY))
            found.clear()


if __name__ == "__main__":
    unittest.main()
