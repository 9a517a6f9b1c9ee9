"""Points [100] and [102]: what texts tell."""

import random
import unittest

from refusedahead.errors import NoText
from refusedahead.notation import show_condition, show_planner, show_row, show_table
from refusedahead.planners import all_planners
from refusedahead.readers import read_condition, read_planner, read_row, read_table
from refusedahead.tables import Table
from tests.things import any_things
from tests.writing import (
    changed, is_condition_text, is_planner_text, is_row_text, make_condition, make_planner, make_row, make_table,
    wrong_line)

READERS = [(read_condition, show_condition, is_condition_text), (read_row, show_row, is_row_text),
           (read_planner, show_planner, is_planner_text)]


def right_line(text, is_text):
    """The line that NoText tells of a text of one line, or None."""
    line, feed, _ = text.partition("\n")
    if not is_text(line):
        return 1
    return 2 if feed else None


class ReadersTest(unittest.TestCase):

    def refuse(self, read, text, line):
        with self.assertRaises(NoText, msg=repr(text)[:300]) as caught:
            read(text)
        self.assertEqual(caught.exception.line, line, repr(text)[:300])

    def test_no_string(self):
        for thing in any_things() + [["n=0"], ("-",), b"n=0"]:
            for read in (read_condition, read_row, read_planner, read_table):
                if not isinstance(thing, str):
                    self.refuse(read, thing, 0)

    def test_any_string(self):
        for thing in any_things():
            if isinstance(thing, str):
                for read, _, is_text in READERS:
                    if right_line(thing, is_text) is None:
                        read(thing)
                    else:
                        self.refuse(read, thing, right_line(thing, is_text))
                if thing != "":
                    self.refuse(read_table, thing, 1)

    def test_what_is_shown_is_read(self):
        source = random.Random(262)
        for _ in range(400):
            for make, (read, show, _) in ((lambda source: make_condition(source, 4), READERS[0]),
                                          (make_row, READERS[1]), (make_planner, READERS[2]),
                                          (make_table, (read_table, show_table, None))):
                thing, text = make(source)
                for _ in range(2):
                    found = read(text)
                    self.assertEqual(found, thing)
                    self.assertEqual(show(found), text)
                    if isinstance(found, dict):
                        self.assertEqual(list(found), sorted(found))
                        found["z"] = 1
                if make is not make_table:
                    self.refuse(read, text + "\n", 2)
                    self.refuse(read, text + "\n" + text, 2)
                    self.refuse(read, "\n" + text, 1)
                    self.refuse(read, " " + text, 1)
                    self.refuse(read, text + " ", 1)

    def test_changed_texts_of_one_line(self):
        source, read_ones = random.Random(263), 0
        for _ in range(4000):
            make, (read, show, is_text) = source.choice((
                (lambda source: make_condition(source, 3), READERS[0]), (make_row, READERS[1]),
                (make_planner, READERS[2])))
            text = make(source)[1]
            for _ in range(source.choice((1, 1, 2))):
                text = changed(source, text)
            line = right_line(text, is_text)
            if line is None:
                read_ones += 1
                self.assertEqual(show(read(text)), text)
            else:
                self.refuse(read, text, line)
        self.assertGreater(read_ones, 200)

    def test_changed_tables(self):
        source, lines = random.Random(264), {}
        for _ in range(3000):
            text = make_table(source)[1]
            for _ in range(source.choice((1, 1, 2))):
                text = changed(source, text)
            line = wrong_line(text)
            if line is None:
                self.assertEqual(show_table(read_table(text)), text)
            else:
                self.refuse(read_table, text, line)
            lines[line] = lines.get(line, 0) + 1
        self.assertGreater(min(lines.get(line, 0) for line in (None, 1, 2, 3, 4)), 50)

    def test_conditions_that_are_none(self):
        for text in ("", " ", "n", "n <>", "n <> ", "<> 0", "n <> 00", "n <> -0", "n <> +1", "n <> 1.0", "n != 0", "n == 0",
                     "n  <> 0", "N <> 0", "ninechars <> 0", "n <> 1000000000001", "n <> 0,", "n <> 0)", "(n <> 0)", "all",
                     "all(", "all)", "all(n <> 0", "all(n <> 0,)", "all(n <> 0, )", "all(, n <> 0)", "all(n <> 0,n empty)",
                     "all(n <> 0,  n empty)", "all (n <> 0)", "all(n <> 0) ", "not()", "not(n empty, n empty)", "case()",
                     "case(n empty ? n empty)", "case(n empty ? n empty, )", "case(n empty, n empty)",
                     "case(n empty ? n empty ? n empty, n empty)", "case(n empty? n empty, n empty)", "n empty ? n empty",
                     "any(n empty ? n empty, n empty)", "always", "always maybe", "always  yes", "always Yes", "some(n empty)",
                     "All(n empty)", "n plus > 3", "n plus 1", "n plus 1 2 > 3", "n plus 01 > 3", "n times 0 > 3",
                     "n into 0 > 3", "n into -1 > 3", "n minus 1 > 3", "n found > 3", "n found 1 > 3", "n found 1:2, > 3",
                     "n found 1:2,1:3 > 3", "n found 2:1,1:1 > 3", "n found 1:2:3 > 3", "n found 1:2, 3:4 > 3",
                     "n found -,1:2 > 3", "n found 1:-0 > 3", "n found 01:2 > 3", "n found - - > 3", "n empty 1",
                     "n empty empty", "n 1 > 3", "n plus 1000000000001 > 0", "n > 3 > 3", "all(n empty))", "all(n empty)n",
                     "not(n empty)not(n empty)", "n" * 4000, "(" * 4000, ", " * 2000):
            self.assertIs(is_condition_text(text), False, text[:60])
            self.refuse(read_condition, text, 1)

    def test_columns_with_the_names_of_words(self):
        for text, test in (("all empty", ("empty", "all")), ("always number", ("number", "always")),
                           ("found found - > 3", ("asks", "found", (("found", ()),), ">", 3)),
                           ("plus plus 1 plus 2 = 0", ("asks", "plus", (("plus", 1), ("plus", 2)), "=", 0)),
                           ("always plus 1 = 0", ("asks", "always", (("plus", 1),), "=", 0))):
            self.assertEqual(read_condition(text), test)
            self.assertEqual(read_condition("not(" + text + ")"), ("not", test))

    def test_deep_conditions(self):
        for many in (1, 8, 19, 20):
            text = "not(" * many + "n empty" + ")" * many
            self.assertEqual(show_condition(read_condition(text)), text)
            text = "case(all(" * (many // 2) + "always yes" + "))" * (many // 2)
            self.assertEqual(show_condition(read_condition(text)), text)
            self.refuse(read_condition, text + ")", 1)

    def test_rows_that_are_none(self):
        for text in ("", " ", "--", "n", "n=", "=1", "n=1,", "n=1, ", "n=1,m=2", "m=1, n=2, m=3", "n=1, m=2", "n=1, n=1",
                     "N=1", "n=A", "n=ninechars", "ninechars=1", "n=01", "n=-0", "n=+1", "n==1", "n = 1", "n=1, -", "-, n=1",
                     "n=1 ", " n=1", "n=--1", "n=1" + "0" * 60, "n=-1" + "0" * 60, "n=None", "n=1;m=2", "n=a b", "n='a'"):
            self.assertIs(is_row_text(text), False, text)
            self.refuse(read_row, text, 1)
        self.assertEqual(read_row("n=" + "9" * 60), {"n": 10 ** 60 - 1})
        self.assertEqual(read_row("a=-, b=-7, c=no"), {"a": None, "b": -7, "c": "no"})
        self.assertEqual(read_row("-"), {})

    def test_planners_that_are_none(self):
        for text in ("", " ", "folds", "free free", "free folds unknown", "free folds folds", "free  folds", "free folds ",
                     "Free", "free text", "free -", "free,folds", "freefolds", "free unknown folds beneath early early"):
            self.assertIs(is_planner_text(text), False, text)
            self.refuse(read_planner, text, 1)
        for planner in all_planners():
            self.assertEqual(read_planner(show_planner(planner)), planner)
            self.refuse(read_planner, show_planner(planner) + "\n", 2)

    def test_tables_that_are_none(self):
        column, index = "column n -9 9 empty\n", "index n <> 0\n"
        for text, line in (
                ("\n", 1), (" ", 1), ("column n -9 9", 1), (column + "\n", 2), (column + "column m 0 1", 2),
                (column + index[:-1], 2), (column + column, 2), (column + "column n 0 1\n", 2), (index, 1),
                (index + column, 1), (column + index + "column m 0 1\n", 3), (column + "index m <> 0\n", 2),
                (column + "\n" + index, 2), (column + index + "\n", 3), (column + index + index + "index", 4),
                ("column n 1 0\n", 1), ("column n 0 1 words empty\n", 1), ("column n 0 1 empty empty\n", 1),
                ("column n 0 1 \n", 1), ("column n 00 1\n", 1), ("column n -0 1\n", 1), ("column  n 0 1\n", 1),
                ("column N 0 1\n", 1), ("column n 0\n", 1), ("column n 0 1000000000001\n", 1), ("column ninechars 0 1\n", 1),
                ("column 0 1\n", 1), ("Column n 0 1\n", 1), (column + "index  n <> 0\n", 2), (column + "index n\n", 2),
                (column + "index always yes\n", 2), (column + "index not(n <> 0)\n", 2), (column + "index n <> 0 \n", 2),
                (column + "n <> 0\n", 2), ("\n" + column, 1), (" " + column, 1), (column + "x", 2), (column + " ", 2)):
            self.assertEqual(wrong_line(text), line, text)
            self.refuse(read_table, text, line)
        self.assertEqual(read_table(""), Table([]))
        self.assertEqual(read_table(column + index + index).indexes(), [("asks", "n", (), "<>", 0)] * 2)
        self.assertEqual(read_table("column m 0 1\n" + column).columns(),
                         [("m", 0, 1, False, False), ("n", -9, 9, True, False)])


if __name__ == "__main__":
    unittest.main()
