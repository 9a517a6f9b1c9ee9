"""Points [100] and [101]: the texts."""

import random
import unittest

from refusedahead.notation import show_condition, show_planner, show_row, show_table, show_test
from refusedahead.planners import Planner, all_planners
from refusedahead.tables import Table
from tests.writing import BOUND, make_condition, make_planner, make_row, make_table, make_test

SOME = ("asks", "n", (), "<>", 0)


class NotationTest(unittest.TestCase):

    def test_tests(self):
        for test, text in (
                (("empty", "n"), "n empty"), (("number", "eightabc"), "eightabc number"), (SOME, "n <> 0"),
                (("asks", "n", (("plus", 1), ("over", 10)), ">", 3), "n plus 1 over 10 > 3"),
                (("asks", "m", (("times", -2), ("into", 7)), "<=", -BOUND), "m times -2 into 7 <= -1000000000000"),
                (("asks", "n", (("found", ()),), "=", 0), "n found - = 0"),
                (("asks", "n", (("found", ((-3, 5),)),), "<", 0), "n found -3:5 < 0"),
                (("asks", "n", (("found", ((-3, 5), (0, -1), (2, 0))), ("plus", 0)), ">=", 7),
                 "n found -3:5,0:-1,2:0 plus 0 >= 7")):
            self.assertEqual([show_test(test), show_condition(test)], [text, text])

    def test_conditions(self):
        for condition, text in (
                (("always", "error"), "always error"), (("all", ()), "all()"), (("any", ()), "any()"),
                (("first", ()), "first()"), (("case", (), SOME), "case(n <> 0)"), (("not", SOME), "not(n <> 0)"),
                (("all", (SOME,)), "all(n <> 0)"), (("any", (SOME, ("empty", "m"))), "any(n <> 0, m empty)"),
                (("first", (SOME, SOME, ("not", ("all", ())))), "first(n <> 0, n <> 0, not(all()))"),
                (("case", ((SOME, ("always", "no")), (("empty", "m"), SOME)), ("case", (), ("number", "n"))),
                 "case(n <> 0 ? always no, m empty ? n <> 0, case(n number))")):
            self.assertEqual(show_condition(condition), text)

    def test_rows(self):
        for row, text in (({}, "-"), ({"n": None}, "n=-"), ({"t": "ten", "n": None}, "n=-, t=ten"),
                          ({"b": -7, "a": 0, "c": 10 ** 60 - 1}, "a=0, b=-7, c=" + "9" * 60),
                          ({"n": 1 - 10 ** 60}, "n=-" + "9" * 60)):
            kept = list(row)
            self.assertEqual(show_row(row), text)
            self.assertEqual(list(row), kept)

    def test_planners(self):
        self.assertEqual(show_planner(Planner("text")), "text")
        self.assertEqual(show_planner(Planner("free", early=True, unknown=True)), "free unknown early")
        self.assertEqual(show_planner(Planner("every", unknown=True, folds=True, beneath=True, early=True)),
                         "every unknown folds beneath early")
        texts = [show_planner(planner) for planner in all_planners()]
        self.assertEqual([len(set(texts)), texts[:4]], [48, ["every", "every early", "every beneath",
                                                             "every beneath early"]])

    def test_tables(self):
        columns = [("n", -9, 9, True, False), ("a", 0, 0, False, True), ("b", -BOUND, BOUND, True, True),
                   ("c", 1, 2, False, False)]
        lines = "column n -9 9 empty\ncolumn a 0 0 words\ncolumn b -1000000000000 1000000000000 empty words\ncolumn c 1 2\n"
        self.assertEqual([show_table(Table([])), show_table(Table(columns))], ["", lines])
        self.assertEqual(show_table(Table(columns, [SOME, ("empty", "a")])), lines + "index n <> 0\nindex a empty\n")

    def test_at_random(self):
        source = random.Random(261)
        for _ in range(300):
            for make, show in ((make_test, show_test), (make_row, show_row), (make_planner, show_planner),
                               (make_table, show_table), (lambda source: make_condition(source, 4), show_condition)):
                thing, text = make(source)
                self.assertEqual([show(thing), show(thing)], [text, text])


if __name__ == "__main__":
    unittest.main()
