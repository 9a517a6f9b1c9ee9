"""Point [30]: tests of a column."""

import random
import unittest

from refusedahead.asks import column_of, is_test, test_answer, told
from refusedahead.spans import Spans
from tests.test_steps import SOME_STEPS, led_by_all
from tests.things import LONG_NUMBER, any_things

BOUND = 10 ** 12
SIGNS = ("=", "<>", "<", "<=", ">", ">=")
ANSWERS = ["error", "no", "unknown", "yes"]


def holds(sign, one, other):
    """Whether a sign holds, told once more by itself."""
    return {"=": one == other, "<>": one != other, "<": one < other,
            "<=": one <= other, ">": one > other, ">=": one >= other}[sign]


def right_answer(test, value):
    """What a test answers, told once more by itself."""
    if test[0] == "empty":
        return "yes" if value is None else "no"
    if value is None:
        return "unknown"
    if test[0] == "number":
        return "no" if isinstance(value, str) else "yes"
    if isinstance(value, str):
        return "error"
    reached, _ = led_by_all(test[2], value)
    if reached is None:
        return "error"
    return "yes" if holds(test[3], reached, test[4]) else "no"


class FormTest(unittest.TestCase):

    def test_right(self):
        right = [("empty", "n"), ("number", "eightabc"), ("asks", "n", (), "=", 0)]
        right += [("asks", "n", (step,), ">", 3) for step in SOME_STEPS]
        right += [("asks", "n", (), sign, n) for sign in SIGNS for n in (0, -1, BOUND, -BOUND)]
        right += [("asks", "n", tuple(SOME_STEPS), "<>", 3), ("asks", "n", (("plus", 1),) * 1000, "<", 0)]
        for thing in right:
            self.assertIs(is_test(thing), True, str(thing)[:60])

    def test_wrong(self):
        wrong = any_things() + [
            ("empty",), ("empty", "n", "m"), ["empty", "n"], ("empty", ""), ("empty", "ninechars"), ("empty", None),
            ("empty", 1), ("number", True), ("number", ("n",)), ("full", "n"), ("", "n"), (None, "n"), (1, "n"),
            ("asks", "n"), ("asks", "n", (), "="), ("asks", "n", (), "=", 0, 0), ["asks", "n", (), "=", 0],
            ("asks", "n", [], "=", 0), ("asks", "n", None, "=", 0), ("asks", "n", ("plus", 1), "=", 0),
            ("asks", "n", (("times", 0),), "=", 0), ("asks", "n", (), "==", 0), ("asks", "n", (), "!=", 0),
            ("asks", "n", (), "", 0), ("asks", "n", (), ["="], 0), ("asks", "n", (), None, 0),
            ("asks", "n", (), "=", None), ("asks", "n", (), "=", True), ("asks", "n", (), "=", "a"),
            ("asks", "n", (), "=", BOUND + 1), ("asks", "n", (), "=", -BOUND - 1), ("asks", "n", (), "=", LONG_NUMBER),
            ("asks", "", (), "=", 0), ("asks", 1, (), "=", 0), ("empty", "n", (), "=", 0), ("number", "n", (), "=", 0),
            (("asks",), "n", (), "=", 0), ("asks", ["n"], (), "=", 0), ("always", "yes"), ("not", ("empty", "n")),
        ]
        for thing in wrong:
            self.assertIs(is_test(thing), False, str(thing)[:60])


class AnswerTest(unittest.TestCase):

    def test_column_of(self):
        tests = [("empty", "a"), ("number", "eightabc"), ("asks", "n", (("over", 1),), "=", 0)]
        self.assertEqual([column_of(test) for test in tests], ["a", "eightabc", "n"])

    def test_empty_and_number(self):
        values = [None, 0, 1, LONG_NUMBER, -LONG_NUMBER, "a", "yes"]
        found = [test_answer(("empty", "n"), value) for value in values]
        self.assertEqual(found, ["yes", "no", "no", "no", "no", "no", "no"])
        found = [test_answer(("number", "n"), value) for value in values]
        self.assertEqual(found, ["unknown", "yes", "yes", "yes", "yes", "no", "no"])

    def test_signs(self):
        for sign in SIGNS:
            for number in (-2, 0, 3):
                test = ("asks", "n", (), sign, number)
                self.assertEqual([test_answer(test, None), test_answer(test, "a")], ["unknown", "error"])
                for value in range(-6, 7):
                    right = "yes" if holds(sign, value, number) else "no"
                    self.assertEqual(test_answer(test, value), right, (test, value))

    def test_steps_that_err(self):
        test = ("asks", "n", (("plus", -3), ("over", 7)), ">=", 2)
        found = [test_answer(test, value) for value in (2, 3, 4, 6, 7, None, "ten")]
        self.assertEqual(found, ["no", "error", "yes", "yes", "no", "unknown", "error"])
        test = ("asks", "n", (("found", ()),), "<>", 2)
        found = [test_answer(test, value) for value in (2, 0, None)]
        self.assertEqual(found, ["error", "error", "unknown"])


class ToldTest(unittest.TestCase):

    def check(self, test, numbers):
        for _ in range(2):
            found = told(test)
            self.assertEqual(list(found), ANSWERS)
            for number in numbers:
                having = [word for word in ANSWERS if number in found[word]]
                self.assertEqual(having, [right_answer(test, number)], (test, number))
                self.assertEqual(having, [test_answer(test, number)])
            self.check_all_once(found)
            found["yes"].pairs().clear()
            found.clear()

    def check_all_once(self, found):
        together = Spans([])
        for spans in found.values():
            self.assertIs(type(spans), Spans)
            self.assertEqual((together & spans).pairs(), [])
            together = together | spans
        self.assertEqual(together.pairs(), [(None, None)])

    def test_empty_and_number(self):
        numbers = [0, 1, -1, LONG_NUMBER, -LONG_NUMBER]
        self.check(("empty", "n"), numbers)
        self.check(("number", "n"), numbers)
        self.assertEqual(told(("empty", "n"))["no"].pairs(), [(None, None)])
        self.assertEqual(told(("number", "n"))["yes"].pairs(), [(None, None)])

    def test_asks(self):
        source = random.Random(21)
        for _ in range(400):
            steps = tuple(source.choices(SOME_STEPS, k=source.randrange(5)))
            test = ("asks", "n", steps, source.choice(SIGNS), source.randrange(-9, 10))
            self.check(test, list(range(-30, 31)) + [10 ** 9, -10 ** 9])

    def test_bounds(self):
        numbers = [0, 1, BOUND - 1, BOUND, BOUND + 1, -BOUND + 1, -BOUND, -BOUND - 1, LONG_NUMBER, -LONG_NUMBER]
        for sign in SIGNS:
            for number in (BOUND, -BOUND):
                self.check(("asks", "n", (), sign, number), numbers)
                self.check(("asks", "n", (("times", BOUND), ("into", BOUND)), sign, number), numbers)
                self.check(("asks", "n", (("over", number),), sign, number), numbers)

    def test_told_by_hand(self):
        found = told(("asks", "n", (("over", 10),), ">", 3))
        self.assertEqual({word: spans.pairs() for word, spans in found.items()}, {
            "error": [(0, 0)], "no": [(None, -1), (3, None)], "unknown": [], "yes": [(1, 2)]})


if __name__ == "__main__":
    unittest.main()
