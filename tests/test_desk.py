"""Point [104]: a desk that does commands in text."""

import random
import unittest

from refusedahead.desk import Desk
from refusedahead.errors import NoColumn, NoCommand, NoRow, Nothing, Refused, Wrong
from refusedahead.readers import read_table
from refusedahead.store import Store
from tests.things import any_things
from tests.writing import changed, is_condition_text, is_planner_text, is_row_text, is_test_text, make_condition

TABLE = "column n -9 9 empty\ncolumn t 0 0 words\nindex n <> 0\n"


def made(text="column n -9 9 empty\n"):
    return Desk(read_table(text))


class DeskTest(unittest.TestCase):

    def refuse(self, desk, line, error=NoCommand, field=None, worth=None):
        ahead = (desk.execute("rows"), desk.execute("table"))
        with self.assertRaises(error, msg=repr(line)[:200]) as caught:
            desk.execute(line)
        self.assertIs(type(caught.exception), error)
        if field is not None:
            self.assertEqual(getattr(caught.exception, field), worth)
        self.assertEqual((desk.execute("rows"), desk.execute("table")), ahead)

    def test_wrong(self):
        for thing in any_things() + [TABLE]:
            with self.assertRaises(Wrong) as caught:
                Desk(thing)
            self.assertEqual(caught.exception.place, 0)

    def test_deeds(self):
        desk = made(TABLE)
        for line, right in (
                ("rows", ""), ("table", TABLE), ("put n=3, t=ten", "1"), ("put n=-, t=0", "2"), ("put n=-3, t=a", "3"),
                ("rows", "n=3, t=ten\nn=-, t=0\nn=-3, t=a\n"), ("out 1", "2"), ("rows", "n=3, t=ten\nn=-3, t=a\n"),
                ("add n over 9 < 5", "2"), ("table", TABLE + "index n over 9 < 5\n"), ("drop 0", "2"),
                ("table", TABLE[:-13] + "index n over 9 < 5\n"), ("back", "2"), ("back", "2"), ("back", "3"),
                ("table", TABLE), ("again", "2"), ("again", "2"), ("back", "2"), ("put n=1, t=0", "3"), ("back", "2"),
                ("back", "3"), ("back", "2"), ("back", "1"), ("back", "0"), ("rows", ""), ("again", "1")):
            self.assertEqual(desk.execute(line), right, line)

    def test_questions(self):
        desk = made()
        for line, right in (
                ("ask free: n over 10 > 3", "sure -"), ("ask free folds: always error", "never"),
                ("ask text: always error", "sure -"), ("put n=0", "1"), ("put n=2", "2"), ("put n=-", "3"), ("put n=1", "4"),
                ("ask free: n over 10 > 3", "never"), ("ask free: all(n over 10 > 3, n <> 0)", "hangs 1,3"),
                ("ask text: all(n over 10 > 3, n <> 0)", "never"), ("ask text: all(n <> 0, n over 10 > 3)", "sure 1,3"),
                ("ask every unknown: n number", "sure 0,1,3"), ("ask text: always no", "sure -"),
                ("ask free unknown folds beneath early: n found 0:1,2:5 = 1", "never"), ("ask free: n empty", "sure 2"),
                ("ask free: any(n over 10 > 99, n empty, n < 0, n = 0)", "hangs 0,2"),
                ("foresee free: n over 10 > 3", "never"), ("foresee free: all(n over 10 > 3, n <> 0)", "safe"),
                ("foresee text: all(n <> 0, n over 10 > 3)", "sure"), ("foresee text folds: any(always yes, always error)",
                                                                       "never"),
                ("foresee free: case(n <> 0 ? n over 10 > 3, always no)", "sure")):
            self.assertEqual(desk.execute(line), right, line)
        ring = "all(a over 1 > 0, b over 1 > 0)"
        two = made("column a 0 1\ncolumn b 0 1\n")
        self.assertEqual(two.execute("foresee free: " + ring), "never")
        self.assertEqual(made("column a 0 1\ncolumn b 2 3\n").execute("foresee free: " + ring), "safe")

    def test_no_command(self):
        desk = made(TABLE)
        desk.execute("put n=1, t=0")
        for line in ("", " ", "rows ", " rows", "Rows", "rows 1", "table\n", "rows\n", "row", "back 1", "again ", "back\n",
                     "put", "put ", "put  n=1, t=0", "put n=1,t=0", "put n=01, t=0", "put t=0, n=1", "put n=1, t=0\n", "put -0",
                     "put n=1 t=0", "out", "out ", "out  0", "out 00", "out -0", "out -1", "out +0", "out 0 ", "out x", "out 0 0",
                     "out 1" + "0" * 60, "drop", "drop -1", "drop 00", "drop n", "add", "add ", "add n", "add n <> 00",
                     "add always yes", "add not(n empty)", "add all()", "add  n empty", "add n empty\n", "add N empty",
                     "ask", "ask ", "ask free", "ask free:", "ask free: ", "ask free:n empty", "ask free : n empty",
                     "ask free:  n empty", "ask : n empty", "ask slow: n empty", "ask free folds unknown: n empty",
                     "ask free: n empt", "ask free: n empty ", "ask free: n empty\n", "ask free: free: n empty",
                     "ask free: m empty", "ask free: all(n empty, m > 3)", "foresee free: m empty", "foresee free: not()",
                     "foresee", "foresee text", "foresee  text: n empty", "ASK free: n empty", "asks free: n empty", "do_all",
                     "copied", "store", "undo", "put n=1, t=0\nput n=1, t=0", "set n=1, t=0"):
            self.refuse(desk, line)
        for thing in any_things():
            self.refuse(desk, thing)
        for thing in (["rows"], ("rows",), b"rows", None, 0, True):
            self.refuse(desk, thing)

    def test_what_the_store_raises(self):
        desk = made(TABLE)
        for line in ("back", "again"):
            self.refuse(desk, line, Nothing)
        desk.execute("put n=1, t=0")
        desk.execute("put n=2, t=ten")
        for line, error, field, worth in (
                ("put -", Wrong, "place", 0), ("put n=1", Wrong, "place", 0), ("put n=10, t=0", Wrong, "place", 0),
                ("put n=ten, t=0", Wrong, "place", 0), ("put m=1, n=1, t=0", Wrong, "place", 0),
                ("put n=" + "9" * 60 + ", t=0", Wrong, "place", 0), ("out 2", NoRow, "index", 2),
                ("out " + "9" * 60, NoRow, "index", 10 ** 60 - 1), ("drop 1", NoRow, "index", 1),
                ("add m empty", NoColumn, "name", "m"), ("add t plus 1 > 0", NoRow, "index", 1),
                ("add n found 2:1 > 0", NoRow, "index", 0)):
            self.refuse(desk, line, error, field, worth)
        desk.execute("add n over 1 > 0")
        self.refuse(desk, "put n=0, t=0", Refused, "index", 1)
        desk.execute("back")
        self.refuse(desk, "out 5", NoRow, "index", 5)
        self.refuse(desk, "put")
        self.assertEqual(desk.execute("again"), "2")

    def test_a_table_without_columns(self):
        desk = made("")
        self.assertEqual([desk.execute(line) for line in ("table", "put -", "put -", "rows", "ask text: all()")],
                         ["", "1", "2", "-\n-\n", "sure 0,1"])
        self.refuse(desk, "ask text: n empty")
        self.refuse(desk, "put n=1", Wrong, "place", 0)

    def test_the_store_is_a_copy(self):
        desk = made()
        desk.execute("put n=1")
        one, other = desk.store(), desk.store()
        self.assertIsInstance(one, Store)
        one.put({"n": 2})
        other.back()
        desk.execute("put n=3")
        self.assertEqual([one.rows(), other.rows(), desk.store().rows()], [[{"n": 1}, {"n": 2}], [], [{"n": 1}, {"n": 3}]])
        other.again()
        self.assertEqual(other.rows(), [{"n": 1}])

    def right_form(self, line):
        """Whether a line is a command, of a table that has all columns."""
        if line in ("rows", "table", "back", "again"):
            return True
        word, _, rest = line.partition(" ")
        if word in ("out", "drop"):
            return rest.isdigit() and str(int(rest)) == rest and len(rest) <= 60
        planner, colon, condition = rest.partition(": ")
        return {"put": is_row_text(rest), "add": is_test_text(rest)}.get(word, False) or word in ("ask", "foresee") and (
            is_planner_text(planner) and colon != "" and is_condition_text(condition))

    def test_changed_lines(self):
        source, seen = random.Random(281), []
        for _ in range(3000):
            text = make_condition(source, 1)[1] if source.random() < 0.1 else "all(n > 1, n empty)"
            line = source.choice(("rows", "table", "back", "again", "put n=1, t=0", "out 0", "drop 0", "add n over 1 > 0",
                                  "ask free: " + text, "foresee text folds: " + text))
            if source.random() < 0.8:
                line = changed(source, line)
            desk = made(TABLE)
            desk.execute("put n=2, t=ten")
            if not self.right_form(line):
                self.refuse(desk, line)
                seen.append(False)
                continue
            seen.append(True)
            try:
                self.assertIsInstance(desk.execute(line), str)
            except (Wrong, NoRow, NoColumn, Nothing, Refused):
                pass
            except NoCommand:
                self.assertIn(line.partition(" ")[0], ("ask", "foresee"))
        self.assertGreater(min(seen.count(True), seen.count(False)), 500)


if __name__ == "__main__":
    unittest.main()
