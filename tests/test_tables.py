"""Point [40]: tables."""

import unittest

from refusedahead.errors import NoColumn, Twice, Wrong
from refusedahead.tables import Table
from tests.things import any_things

N, M, K, W = ("n", -5, 20, True, False), ("m", 1, 2, False, False), ("k", 0, 0, False, True), ("w", 0, 9, True, True)
OVER_N = ("asks", "n", (("over", 12),), ">", 3)
OVER_W = ("asks", "w", (("plus", -4), ("over", 1)), "=", 0)
NUMBER_M = ("number", "m")


class MakingTest(unittest.TestCase):

    def check_raises(self, error, field, worth, call, *args):
        with self.assertRaises(error) as caught:
            call(*args)
        found = getattr(caught.exception, field)
        self.assertEqual(found, worth)
        self.assertIs(type(found), type(worth))

    def test_none_to_four_columns(self):
        for columns in ([], [N], [N, M], [W, N, M], [W, K, N, M]):
            for given in (columns, tuple(columns)):
                table = Table(given)
                for _ in range(2):
                    self.assertEqual([table.columns(), table.indexes(), len(table)], [columns, [], len(columns)])
                    self.assertEqual(table.names(), sorted([column[0] for column in columns]))

    def test_indexes(self):
        for indexes in ([], [OVER_N], [NUMBER_M, OVER_N, OVER_N]):
            for given in (indexes, tuple(indexes)):
                self.assertEqual(Table([N, M], given).indexes(), indexes)
        self.assertEqual(Table([N], indexes=[OVER_N]), Table([N], [OVER_N]))

    def test_what_was_passed_is_copied(self):
        columns, indexes = [N], [OVER_N]
        table = Table(columns, indexes)
        columns.append(M)
        indexes.clear()
        self.assertEqual([table.columns(), table.indexes(), len(table)], [[N], [OVER_N], 1])

    def test_what_was_told_may_be_changed(self):
        table = Table([N, M], [OVER_N])
        for told in (table.columns(), table.indexes(), table.names()):
            told.clear()
        self.assertEqual([table.columns(), table.indexes(), table.names()], [[N, M], [OVER_N], ["m", "n"]])

    def test_wrong_columns(self):
        wrong = [thing for thing in any_things() if thing not in ([], ())] + [
            N, [N, 1], [N, list(M)], [("n", 2, 1, True, False)], {"n": N}, [N, None], Table([N]), [OVER_N]]
        for thing in wrong:
            self.check_raises(Wrong, "place", 0, Table, thing)
            self.check_raises(Wrong, "place", 0, Table, thing, 5)

    def test_wrong_indexes(self):
        wrong = [thing for thing in any_things() if thing not in ([], ())] + [
            OVER_N, [OVER_N, 1], [("not", OVER_N)], [("always", "yes")], [list(OVER_N)], {"n": OVER_N}, Table([N])]
        for thing in wrong:
            self.check_raises(Wrong, "place", 1, Table, [N, N], thing)

    def test_twice(self):
        other = ("n", 0, 1, False, False)
        self.check_raises(Twice, "name", "n", Table, [N, other])
        self.check_raises(Twice, "name", "n", Table, [N, N, M, M])
        self.check_raises(Twice, "name", "m", Table, [N, M, M, N])
        self.check_raises(Twice, "name", "n", Table, (N, N), [NUMBER_M])

    def test_no_column(self):
        self.check_raises(NoColumn, "name", "m", Table, [N], [OVER_N, NUMBER_M, OVER_W])
        self.check_raises(NoColumn, "name", "w", Table, [N, M], [OVER_N, OVER_W])
        self.check_raises(NoColumn, "name", "n", Table, [], (OVER_N,))


class AskingTest(unittest.TestCase):

    def setUp(self):
        self.table = Table([N, K, W], [OVER_N, OVER_W])

    def test_item(self):
        for column in (N, K, W):
            self.assertEqual(self.table[column[0]], column)
        for thing in any_things() + ["m", "nn", 0, slice(1, 2)]:
            with self.assertRaises(NoColumn) as caught:
                self.table[thing]
            self.assertIs(caught.exception.name, thing)

    def test_in(self):
        for name in ("n", "k", "w"):
            self.assertIs(name in self.table, True)
        for thing in any_things() + ["m", "nn", N]:
            self.assertIs(thing in self.table, False)
        self.assertIs("n" in Table([]), False)

    def test_not_iterated_over(self):
        with self.assertRaises(TypeError):
            list(self.table)

    def test_holds(self):
        self.assertEqual([self.table.holds("n", value) for value in (None, -6, -5, 20, 21, "a", True, 0)],
                         [True, False, True, True, False, False, False, True])
        self.assertEqual([self.table.holds("k", value) for value in (None, 0, 1, "a", "A", False)],
                         [False, True, False, True, False, False])
        for thing in any_things():
            self.assertIs(self.table.holds(thing, 0), False)
            self.assertIs(self.table.holds("m", thing), False)
            right = thing is None or type(thing) is int and -5 <= thing <= 20
            self.assertIs(self.table.holds("n", thing), right)

    def test_has_row(self):
        right = [{"n": 1, "k": 0, "w": 0}, {"w": None, "n": None, "k": "a"}, {"k": "ten", "w": 9, "n": -5}]
        for row in right:
            self.assertIs(self.table.has_row(row), True)
        wrong = any_things() + [
            {"n": 0, "k": 0, "w": 0}, {"n": 1, "k": 0, "w": 4}, {"n": 1, "k": 0, "w": "ten"}, {"n": 1, "k": None, "w": 0},
            {"n": 21, "k": 0, "w": 0}, {"n": "a", "k": 0, "w": 0}, {"n": 1, "k": 0}, {"n": 1, "k": 0, "w": 0, "m": 1},
            {"n": 1, "k": False, "w": 0}, {"n": True, "k": 0, "w": 0}, {"n": 1, "k": 0, "x": 0}, {"n": 1, "k": 0, 1: 0},
            [("n", 1), ("k", 0), ("w", 0)], {"n": 1, "k": 0, "w": "A"}, {"n": 1, "k": 0, None: 0}, {"n": [], "k": 0, "w": 0},
        ]
        for thing in wrong:
            self.assertIs(self.table.has_row(thing), False, str(thing)[:60])

    def test_has_row_without_columns(self):
        self.assertIs(Table([]).has_row({}), True)
        self.assertIs(Table([]).has_row({"n": 1}), False)
        self.assertIs(Table([N]).has_row({}), False)

    def test_a_table_may_have_no_row(self):
        never = Table([("n", 0, 0, False, False)], [OVER_N])
        self.assertIs(never.has_row({"n": 0}), False)

    def test_fits(self):
        for condition, right in (
                (OVER_N, True), (NUMBER_M, False), (("always", "error"), True), (("all", ()), True),
                (("all", (OVER_N, OVER_W)), True), (("all", (OVER_N, NUMBER_M)), False),
                (("case", ((OVER_N, OVER_W),), ("empty", "x")), False), (("not", ("empty", "k")), True)):
            self.assertIs(self.table.fits(condition), right)
        self.assertEqual([Table([]).fits(OVER_N), Table([]).fits(("first", ()))], [False, True])


class OtherTablesTest(unittest.TestCase):

    def setUp(self):
        self.table = Table([N, W], [OVER_N, OVER_W])

    def tearDown(self):
        self.assertEqual([self.table.columns(), self.table.indexes()], [[N, W], [OVER_N, OVER_W]])

    def test_with_column(self):
        self.assertEqual(self.table.with_column(M), Table([N, W, M], [OVER_N, OVER_W]))
        self.assertEqual(Table([]).with_column(M), Table([M]))
        for thing in any_things() + [OVER_N, [N], ("n", 2, 1, True, False)]:
            with self.assertRaises(Wrong) as caught:
                self.table.with_column(thing)
            self.assertEqual(caught.exception.place, 0)
        with self.assertRaises(Twice) as caught:
            self.table.with_column(("w", 0, 0, False, False))
        self.assertEqual(caught.exception.name, "w")

    def test_with_index(self):
        self.assertEqual(self.table.with_index(OVER_N), Table([N, W], [OVER_N, OVER_W, OVER_N]))
        self.assertEqual(Table([N]).with_index(OVER_N), Table([N], [OVER_N]))
        for thing in any_things() + [N, [OVER_N], ("not", OVER_N)]:
            with self.assertRaises(Wrong) as caught:
                self.table.with_index(thing)
            self.assertEqual(caught.exception.place, 0)
        with self.assertRaises(NoColumn) as caught:
            self.table.with_index(NUMBER_M)
        self.assertEqual(caught.exception.name, "m")

    def test_without(self):
        self.assertEqual(self.table.without("n"), Table([W], [OVER_W]))
        self.assertEqual(self.table.without("w"), Table([N], [OVER_N]))
        self.assertEqual(Table([N, M, K], [NUMBER_M, OVER_N, NUMBER_M]).without("m"), Table([N, K], [OVER_N]))
        self.assertEqual(self.table.without("n").without("w"), Table([]))
        for thing in any_things() + ["m", N]:
            with self.assertRaises(NoColumn) as caught:
                self.table.without(thing)
            self.assertIs(caught.exception.name, thing)

    def test_equal(self):
        same = [Table([N, W], [OVER_N, OVER_W]), Table((N, W), (OVER_N, OVER_W)), self.table]
        for one in same:
            for other in same:
                self.assertEqual([one == other, one != other], [True, False])
        unlike = [Table([W, N], [OVER_N, OVER_W]), Table([N, W], [OVER_W, OVER_N]), Table([N, W]), Table([]),
                  Table([N, W, M], [OVER_N, OVER_W]), Table([N, ("w", 0, 8, True, True)], [OVER_N, OVER_W])]
        for other in unlike:
            for one, two in ((self.table, other), (other, self.table)):
                self.assertEqual([one == two, one != two], [False, True])

    def test_equal_to_nothing_else(self):
        for thing in any_things() + [[N, W], (N, W), ([N, W], [OVER_N, OVER_W])]:
            self.assertEqual([self.table == thing, self.table != thing, thing == self.table], [False, True, False])
            self.assertIs(Table([]) == thing, False)


if __name__ == "__main__":
    unittest.main()
