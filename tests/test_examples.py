"""The examples of the document, answered as they stand there."""

import doctest
import os
import unittest

README = os.path.join(os.path.dirname(os.path.abspath(__file__)), "..", "README.md")

STAGE_1 = """
>>> from refusedahead.spans import Spans
>>> from refusedahead.steps import before, erring, step_on, steps_on
>>> some = Spans([(4, 6), (1, 3), (9, None)])
>>> [some.pairs(), (~some).pairs(), 6 in some, some.many(), Spans([(1, 2)]).is_within(some), some.least(), (some - Spans([(2, 9)])).pairs()]
[[(1, 6), (9, None)], [(None, 0), (7, 8)], True, None, True, 1, [(1, 1), (10, None)]]
>>> [steps_on((("plus", 1), ("over", 10)), 3), before((("over", 10),), Spans([(4, None)])).pairs(), erring((("plus", 1), ("over", 10))).pairs()]
[2, [(1, 2)], [(-1, -1)]]
>>> [before((("times", -2),), Spans([(1, 4)])).pairs(), before((("into", 3), ("found", ((0, 7), (2, 9)))), Spans([(9, 9)])).pairs()]
[[(-2, -1)], [(6, 8)]]
"""

STAGE_2 = """
>>> from refusedahead.asks import test_answer, told
>>> tens = ("asks", "n", (("over", 10),), ">", 3)
>>> [test_answer(tens, 2), test_answer(tens, 0), test_answer(tens, None), test_answer(tens, "ten"), told(tens)["yes"].pairs()]
['yes', 'error', 'unknown', 'error', [(1, 2)]]
"""


class ExamplesTest(unittest.TestCase):

    def check(self, text, name):
        example = doctest.DocTestParser().get_doctest(text, {}, name, None, 0)
        self.assertGreater(len(example.examples), 0)
        self.assertEqual(doctest.DocTestRunner(verbose=False).run(example).failed, 0)

    def test_stage_1(self):
        self.check(STAGE_1, "stage 1")

    def test_stage_2(self):
        self.check(STAGE_2, "stage 2")

    def test_readme(self):
        with open(README, encoding="utf-8") as file:
            text = file.read().replace("```", "")
        self.check(text, "README")


if __name__ == "__main__":
    unittest.main()
