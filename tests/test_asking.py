"""Point [32]: conditions asked at rows."""

import itertools
import random
import unittest

from refusedahead.asking import answer, asked, keeps, kept
from refusedahead.errors import NoRow
from tests.makers import ANSWERS, always, make_condition, right_asked

ALWAYS = [always(word) for word in ANSWERS]
SOME, TENS = ("asks", "n", (), "<>", 0), ("asks", "n", (("over", 10),), ">", 3)
GUARDED = ("all", (SOME, TENS))


def words(condition):
    """The words of the alwayses that a condition asks, and its answer."""
    return [word for _, word in asked(condition, {})], answer(condition, {})


class AnswerTest(unittest.TestCase):

    def test_leaves(self):
        for word in ANSWERS:
            self.assertEqual([answer(always(word), {}), asked(always(word), {})], [word, [((), word)]])
        self.assertEqual([answer(TENS, {"n": value}) for value in (2, 3, 0, None, "ten")],
                         ["yes", "no", "error", "unknown", "error"])

    def test_not(self):
        self.assertEqual([answer(("not", one), {}) for one in ALWAYS], ["error", "yes", "unknown", "no"])
        self.assertEqual(asked(("not", always("yes")), {}), [((0,), "yes")])

    def test_all_and_any_of_two(self):
        rank = {"all": ("no", "error", "unknown", "yes"), "any": ("yes", "error", "unknown", "no")}
        for kind in ("all", "any"):
            decisive = rank[kind][0]
            for one, other in itertools.product(ANSWERS, repeat=2):
                found = words((kind, (always(one), always(other))))
                if one in (decisive, "error"):
                    self.assertEqual(found, ([one], one))
                elif other in (decisive, "error"):
                    self.assertEqual(found, ([one, other], other))
                else:
                    self.assertEqual(found, ([one, other], min(one, other, key=rank[kind].index)))

    def test_without_parts(self):
        found = [answer((kind, ()), {}) for kind in ("all", "any", "first")]
        self.assertEqual(found, ["yes", "no", "unknown"])
        self.assertEqual([asked((kind, ()), {}) for kind in ("all", "any", "first")], [[], [], []])
        for word in ANSWERS:
            self.assertEqual(answer(("case", (), always(word)), {}), word)
            self.assertEqual(asked(("case", (), always(word)), {}), [((0,), word)])

    def test_case(self):
        for when, then, other in itertools.product(ANSWERS, repeat=3):
            condition = ("case", ((always(when), always(then)),), always(other))
            if when == "error":
                right = "error", [((0,), "error")]
            elif when == "yes":
                right = then, [((0,), "yes"), ((1,), then)]
            else:
                right = other, [((0,), when), ((2,), other)]
            self.assertEqual((answer(condition, {}), asked(condition, {})), right)

    def test_case_of_two_pairs(self):
        condition = ("case", ((always("unknown"), always("error")), (always("yes"), always("unknown"))), always("error"))
        self.assertEqual(answer(condition, {}), "unknown")
        self.assertEqual(asked(condition, {}), [((0,), "unknown"), ((2,), "yes"), ((3,), "unknown")])

    def test_first(self):
        for one, other in itertools.product(ANSWERS, repeat=2):
            right = ([one, other], other) if one == "unknown" else ([one], one)
            self.assertEqual(words(("first", (always(one), always(other)))), right)

    def test_many_conditions(self):
        source = random.Random(41)
        values = (None, 0, 1, 2, 3, -3, 7, "ten", "a")
        for _ in range(500):
            condition = make_condition(source, ("n", "m"), 3)
            for _ in range(12):
                row = {"n": source.choice(values), "m": source.choice(values)}
                said, trail = right_asked(condition, row)
                self.assertEqual(answer(condition, row), said)
                self.assertEqual(asked(condition, row), trail)
                self.assertIs(keeps(condition, row), said == "yes")

    def test_more_columns_than_are_asked(self):
        row = {"m": "a", "n": 2, "z": None}
        self.assertEqual([answer(GUARDED, row), asked(GUARDED, row)], ["yes", [((0,), "yes"), ((1,), "yes")]])
        self.assertEqual(row, {"m": "a", "n": 2, "z": None})

    def test_the_same_row_changed(self):
        row, found = {"n": 2}, []
        for value in (2, 0, 9, None, "ten", 2):
            row["n"] = value
            found.append((answer(GUARDED, row), keeps(GUARDED, row), len(asked(GUARDED, row))))
        self.assertEqual(found, [
            ("yes", True, 2), ("no", False, 1), ("no", False, 2), ("unknown", False, 2), ("error", False, 1),
            ("yes", True, 2)])

    def test_what_was_asked_may_be_changed(self):
        asked(GUARDED, {"n": 2}).clear()
        self.assertEqual(asked(GUARDED, {"n": 2}), [((0,), "yes"), ((1,), "yes")])


class KeptTest(unittest.TestCase):

    def test_keeps(self):
        self.assertEqual([keeps(one, {}) for one in ALWAYS], [False, False, False, True])

    def test_kept(self):
        contents = [{"n": value} for value in (0, 1, None, 2, 2, 9, 1)]
        for _ in range(2):
            found = kept(GUARDED, contents)
            self.assertEqual(found, [1, 3, 4, 6])
            found.clear()
        self.assertEqual(contents, [{"n": value} for value in (0, 1, None, 2, 2, 9, 1)])

    def test_no_row(self):
        for condition in ALWAYS + [GUARDED]:
            self.assertEqual(kept(condition, []), [])

    def test_a_row_that_errs(self):
        for values, index in (((0,), 0), ((1, 0), 1), ((1, "ten", 0), 1), ((0, 0), 0), ((1, None, 2, 5, 0), 4)):
            with self.assertRaises(NoRow) as caught:
                kept(TENS, [{"n": value} for value in values])
            self.assertEqual(caught.exception.index, index)


if __name__ == "__main__":
    unittest.main()
