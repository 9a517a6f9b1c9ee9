"""Point [103]: a store of rows, its deeds, and what they tell."""

import random
import unittest

from refusedahead.contents import judged, kept_rows, strength
from refusedahead.errors import BadDeed, NoColumn, NoRow, Nothing, Refused, Stopped, Wrong
from refusedahead.planners import Planner
from refusedahead.store import Store
from refusedahead.tables import Table
from tests.comparing import make_pair
from tests.planning import leaf, right_planners
from tests.test_asks import right_answer
from tests.things import any_things

COLUMNS = [("b", 0, 2, True, False), ("a", 0, 2, True, True)]
TABLE = Table(COLUMNS)
A, B = leaf("a"), leaf("b")
TENS = ("asks", "a", (("over", 10),), ">", 3)
FREE = Planner("free")
WORDS = ("put", "out", "add", "drop")


def row(a, b):
    return {"a": a, "b": b}


class Model:
    """A store told once more by itself: all states there have been, and the place among them."""

    def __init__(self, table):
        self.states, self.at = [(table, [])], 0

    @property
    def table(self):
        return self.states[self.at][0]

    @property
    def rows(self):
        return self.states[self.at][1]

    def after(self, state, word, thing):
        """The state behind a deed, or the class of its error and what that keeps."""
        table, rows = state
        indexes = table.indexes()
        if word == "put":
            if not isinstance(thing, dict) or sorted(map(str, thing)) != table.names():
                return Wrong, "place", 0
            if not all(Table(table.columns()).holds(name, worth) for name, worth in thing.items()):
                return Wrong, "place", 0
            for index, test in enumerate(indexes):
                if right_answer(test, thing[test[1]]) == "error":
                    return Refused, "index", index
            return table, rows + [dict(sorted(thing.items()))]
        if word == "add":
            if not isinstance(thing, tuple):
                return Wrong, "place", 0
            if thing[1] not in table.names():
                return NoColumn, "name", thing[1]
            for index, one in enumerate(rows):
                if right_answer(thing, one[thing[1]]) == "error":
                    return NoRow, "index", index
            return table.with_index(thing), rows
        lot = rows if word == "out" else indexes
        if not isinstance(thing, int) or isinstance(thing, bool) or not 0 <= thing < len(lot):
            return NoRow, "index", thing
        left = [one for index, one in enumerate(lot) if index != thing]
        return (table, left) if word == "out" else (Table(table.columns(), left), rows)

    def do(self, word, thing):
        """None, or the error that comes."""
        if word in ("back", "again"):
            to = self.at + (1 if word == "again" else -1)
            if not 0 <= to < len(self.states):
                return Nothing, None, None
            self.at = to
            return None
        state = self.states[self.at]
        for index, (name, told) in enumerate(thing if word == "do_all" else [(word, thing)]):
            state = self.after(state, name, told)
            if len(state) == 3:
                return (Stopped, "index", index) if word == "do_all" else state
        self.states = self.states[:self.at + 1] + [state]
        self.at += 1
        return None


def make_deed(source, model):
    word = source.choice(("put", "put", "put", "out", "add", "drop"))
    if word == "put":
        thing = row(source.choice((0, 1, 1, 2, None, "ten")), source.choice((0, 1, 1, 2, None)))
        return word, source.choice((thing,) * 6 + ({"a": 1}, row(3, 0), row(True, 0), {**thing, "c": 1}, [thing]))
    if word == "add":
        return word, source.choice((A, B, TENS, ("empty", "a"), ("number", "c"), ("asks", "b", (("over", 1),), "=", 0), 7))
    return word, source.choice((0, 0, 1, 2, len(model.rows), len(model.rows) - 1, -1, None, True, "0"))


def apply(store, word, thing):
    if word == "back":
        return store.back()
    if word == "again":
        return store.again()
    if word == "do_all":
        return store.do_all(thing)
    return {"put": store.put, "out": store.out, "add": store.add, "drop": store.drop}[word](thing)


class StoreTest(unittest.TestCase):

    def check_state(self, store, model):
        self.assertEqual([store.rows(), len(store)], [model.rows, len(model.rows)])
        self.assertEqual([list(one) for one in store.rows()], [["a", "b"]] * len(model.rows))
        self.assertEqual(store.table, model.table)

    def check_do(self, store, model, word, thing):
        right = model.do(word, thing)
        if right is None:
            self.assertIs(apply(store, word, thing), None)
        else:
            error, field, worth = right
            with self.assertRaises(error) as caught:
                apply(store, word, thing)
            self.assertIs(type(caught.exception), error)
            if field is not None:
                self.assertEqual(getattr(caught.exception, field), worth)
        self.check_state(store, model)
        return right is None

    def check_questions(self, source, store, model):
        condition = make_pair(source, "ab")[0]
        planner = source.choice(right_planners())
        kept = kept_rows(planner, condition, model.rows)
        for _ in range(2):
            self.assertEqual(store.ask(planner, condition), (
                judged(planner, condition, model.rows), None if kept is None else tuple(kept)))
            self.assertEqual(store.foresee(planner, condition), strength(planner, condition, model.table))

    def test_by_turns(self):
        source, done = random.Random(271), {}
        for number in range(300):
            store, model = Store(TABLE), Model(TABLE)
            for _ in range(source.randrange(30)):
                word, thing = make_deed(source, model)
                turn = source.random()
                if turn < 0.35:
                    word, thing = source.choice(("back", "again")), None
                elif turn < 0.5:
                    word, thing = "do_all", [make_deed(source, model) for _ in range(source.randrange(4))]
                ended = self.check_do(store, model, word, thing)
                done[word, ended] = done.get((word, ended), 0) + 1
                if number < 30 or source.random() < 0.05:
                    self.check_questions(source, store, model)
                if source.random() < 0.1:
                    store = store.copied()
        self.assertEqual(len(done), 14)
        self.assertGreater(min(done.values()), 20)

    def test_wrong(self):
        for thing in any_things() + [COLUMNS, (COLUMNS, [])]:
            with self.assertRaises(Wrong) as caught:
                Store(thing)
            self.assertEqual(caught.exception.place, 0)

    def test_at_first(self):
        store = Store(TABLE.with_index(A))
        self.assertEqual([store.rows(), len(store), store.table], [[], 0, TABLE.with_index(A)])
        for deed in (store.back, store.again):
            with self.assertRaises(Nothing):
                deed()

    def test_any_value(self):
        store = Store(TABLE.with_index(A))
        store.put(row(0, 0))
        for thing in any_things():
            for deed, error, field in ((store.put, Wrong, "place"), (store.add, Wrong, "place"),
                                       (store.out, NoRow, "index"), (store.drop, NoRow, "index")):
                if deed in (store.out, store.drop) and isinstance(thing, int) and not isinstance(thing, bool) and thing == 0:
                    continue
                if deed == store.add and thing == ("empty", "n"):
                    continue
                with self.assertRaises(error) as caught:
                    deed(thing)
                self.assertEqual(getattr(caught.exception, field), 0 if error is Wrong else thing)
            if isinstance(thing, (list, tuple)) and len(thing) == 0:
                continue
            with self.assertRaises(BadDeed):
                store.do_all(thing)
        self.assertEqual([store.rows(), store.table], [[row(0, 0)], TABLE.with_index(A)])
        store.back()
        with self.assertRaises(Nothing):
            store.back()

    def test_refused_rows(self):
        store = Store(Table(COLUMNS, [("empty", "a"), B, A, B]))
        for thing, index in ((row(2, 2), 1), (row(2, 1), 2), (row("ten", 0), 2), (row(0, 2), 1)):
            with self.assertRaises(Refused) as caught:
                store.put(thing)
            self.assertEqual(caught.exception.index, index)
        store.put(row(None, None))
        self.assertEqual(store.rows(), [row(None, None)])

    def test_rows_that_are_none_of_the_table(self):
        store = Store(TABLE)
        for thing in ({"a": 1}, {"a": 1, "b": 1, "c": 1}, row(3, 1), row(-1, 1), row(1, "ten"), row("Ten", 1), row(True, 1),
                      row(1, False), {"b": 1}, {}, [("a", 1), ("b", 1)], {"a": 1, None: 1}):
            with self.assertRaises(Wrong) as caught:
                store.put(thing)
            self.assertEqual(caught.exception.place, 0)
        self.assertEqual(len(store), 0)

    def test_adding(self):
        store = Store(TABLE)
        for thing in (row(1, 1), row(0, 1), row(1, 2), row(0, None)):
            store.put(thing)
        for test, error, field, worth in ((("empty", "c"), NoColumn, "name", "c"), (TENS, NoRow, "index", 1),
                                          (B, NoRow, "index", 2), (("empty", ""), Wrong, "place", 0),
                                          (("asks", "c", (("over", 0),), "=", 0), NoColumn, "name", "c")):
            with self.assertRaises(error) as caught:
                store.add(test)
            self.assertEqual(getattr(caught.exception, field), worth)
        self.assertEqual(store.table, TABLE)
        store.add(A)
        store.add(A)
        self.assertEqual(store.table.indexes(), [A, A])
        with self.assertRaises(NoRow) as caught:
            store.drop(2)
        self.assertEqual(caught.exception.index, 2)
        store.add(("empty", "b"))
        store.drop(1)
        self.assertEqual(store.table.indexes(), [A, ("empty", "b")])
        self.assertEqual(store.table.columns(), COLUMNS)

    def test_an_error_changes_nothing_of_what_can_be_done_again(self):
        store = Store(TABLE)
        store.put(row(0, 0))
        store.put(row(1, 1))
        store.back()
        for deed, thing in ((store.put, row(3, 3)), (store.out, 1), (store.add, TENS), (store.drop, 0),
                            (store.do_all, [("put", row(1, 2)), ("out", 2)]), (store.do_all, [1])):
            with self.assertRaises(ValueError):
                deed(thing)
        store.again()
        self.assertEqual(store.rows(), [row(0, 0), row(1, 1)])
        store.back()
        store.do_all([])
        with self.assertRaises(Nothing):
            store.again()

    def test_rows_that_are_changed_behind(self):
        store, mine = Store(TABLE), row(0, 1)
        store.put(mine)
        mine["a"] = 2
        told = store.rows()
        told[0]["b"] = 7
        told.append(mine)
        deeds = [("put", mine)]
        store.do_all(deeds)
        mine.clear()
        deeds.clear()
        self.assertEqual(store.rows(), [row(0, 1), row(2, 1)])
        store.back()
        store.again()
        self.assertEqual(store.rows(), [row(0, 1), row(2, 1)])
        given = {"b": 1, "a": 0}
        store.put(given)
        self.assertEqual([list(given), list(store.rows()[2])], [["b", "a"], ["a", "b"]])

    def test_do_all(self):
        for many in ([], ()):
            store = Store(TABLE)
            store.do_all(many)
            store.put(row(1, 1))
            store.back()
            store.back()
            with self.assertRaises(Nothing):
                store.back()
            store.again()
            self.assertEqual(len(store), 0)
        store = Store(TABLE)
        store.do_all((("put", row(0, 0)), ("put", row(1, 1)), ("add", B), ("out", 0), ("put", row(2, None))))
        self.assertEqual([store.rows(), store.table.indexes()], [[row(1, 1), row(2, None)], [B]])
        store.back()
        self.assertEqual([store.rows(), store.table.indexes()], [[], []])
        store.again()
        self.assertEqual(len(store), 2)

    def test_stopped(self):
        store = Store(TABLE)
        for deeds, index in (([("put", 1)], 0), ([("put", row(0, 0)), ("out", 1)], 1), ([("add", A), ("put", row(2, 0))], 1),
                             ([("put", row(2, 0)), ("put", row(1, 1)), ("add", A)], 2), ([("add", ("empty", "c"))], 0),
                             ([("drop", 0)], 0), ([("add", A), ("drop", 0), ("drop", 0)], 2), ([("put", None)], 0)):
            with self.assertRaises(Stopped) as caught:
                store.do_all(deeds)
            self.assertEqual(caught.exception.index, index)
            self.assertEqual([len(store), store.table], [0, TABLE])
        with self.assertRaises(Nothing):
            store.back()

    def test_bad_deeds(self):
        store, right = Store(TABLE), ("put", row(0, 0))
        for deed in (["put", row(0, 0)], ("put",), ("put", row(0, 0), 0), ("set", row(0, 0)), ("back", None), (1, 2), (),
                     ("Put", row(0, 0)), (("put",), row(0, 0)), (["put"], 0), ({}, 0), None, "put", {"put": 1}, ("do_all", []), ("ask", 0)):
            for deeds in ([deed], [right, deed], [("out", 99), deed], (deed, right)):
                with self.assertRaises(BadDeed):
                    store.do_all(deeds)
        for deeds in (None, 0, "put", right, {0: right}, {"put": row(0, 0)}):
            with self.assertRaises(BadDeed):
                store.do_all(deeds)
        self.assertEqual(len(store), 0)

    def test_far_back_and_again(self):
        store, states = Store(TABLE), []
        for number in range(12):
            states.append((store.rows(), store.table))
            store.put(row(number % 2, None))
            states.append((store.rows(), store.table))
            store.add((A, B)[number % 2])
        last = (store.rows(), store.table)
        for state in states[::-1]:
            store.back()
            self.assertEqual((store.rows(), store.table), state)
        with self.assertRaises(Nothing):
            store.back()
        for state in states[1:] + [last]:
            store.again()
            self.assertEqual((store.rows(), store.table), state)
        with self.assertRaises(Nothing):
            store.again()

    def test_copies_go_on_by_themselves(self):
        store = Store(TABLE)
        store.put(row(0, 0))
        store.put(row(1, 1))
        store.back()
        copies = [store.copied(), store.copied(), store.copied().copied()]
        copies[0].put(row(2, 2))
        copies[1].again()
        copies[2].back()
        store.add(A)
        self.assertEqual([one.rows() for one in copies] + [store.rows()],
                         [[row(0, 0), row(2, 2)], [row(0, 0), row(1, 1)], [], [row(0, 0)]])
        self.assertEqual([len(one.table.indexes()) for one in copies] + [len(store.table.indexes())], [0, 0, 0, 1])
        copies[2].again()
        copies[2].again()
        self.assertEqual(copies[2].rows(), [row(0, 0), row(1, 1)])
        with self.assertRaises(Nothing):
            store.again()

    def test_ask_and_foresee(self):
        store, guarded = Store(TABLE), ("all", (TENS, ("asks", "a", (), "<>", 0)))
        self.assertEqual([store.ask(FREE, guarded), store.foresee(FREE, guarded)], [("sure", ()), "never"])
        store.put(row(1, 0))
        store.put(row(0, 0))
        self.assertEqual(store.ask(FREE, guarded), ("hangs", (0,)))
        self.assertEqual(store.ask(Planner("text"), guarded), ("never", None))
        store.out(1)
        store.add(TENS)
        self.assertEqual([store.ask(FREE, guarded), store.foresee(FREE, guarded)], [("sure", (0,)), "sure"])
        store.back()
        self.assertEqual(store.foresee(FREE, guarded), "never")


if __name__ == "__main__":
    unittest.main()
