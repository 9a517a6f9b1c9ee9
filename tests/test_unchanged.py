"""Point [3]: what is passed stays, and what is told is new and may be changed, for each function of the interface."""

import copy
import importlib
import random
import unittest

from refusedahead.desk import Desk
from refusedahead.joins import Join
from refusedahead.planners import Planner
from refusedahead.spans import Spans
from refusedahead.store import Store
from refusedahead.tables import Table
from tests.test_interface import CLASSES, FUNCTIONS, PROPERTIES

FREE, TEXT = Planner("free", unknown=True), Planner("text", beneath=True)
SOME, TENS, M = ("asks", "n", (), "<>", 0), ("asks", "n", (("over", 10),), ">", 3), ("asks", "m", (), "<", 5)
BOTH, PLAN, ROW = ("all", (TENS, SOME)), {(): [1, 0]}, {"n": 2}
CASE = ("case", ((SOME, TENS),), ("not", ("any", (TENS, BOTH))))
CASE_PLAN = {(2, 0): [1, 0], (2, 0, 1): [1, 0]}
ROWS = [{"n": 0}, {"n": 2}, {"n": None}, {"n": 2}]
COLUMN, TABLE = ("n", -9, 9, True, True), Table([("n", -9, 9, True, False)], [("asks", "n", (), "<", 9)])
RIGHT = Table([("m", 0, 12, True, False)])
JOIN = Join(TABLE, RIGHT, "n", "m", partner=True)
JOINED, CONTENTS = ("all", (TENS, M, SOME)), ([{"n": 2}], [{"m": 2}, {"m": None}, {"m": 2}])
WAY, STUCK = ([(0,), (2,)], {(): [2, 1, 0]}), ("all", (TENS,))
STEPS, TERMS = (("plus", 1), ("over", 10)), [("n", (("over", 10),)), ("n", ())]
GUARDS = [(1, 0)]
ORDER, SPANS = [2, 1, 3, 0], Spans([(1, 4), (9, None)])
TEXT_OF_TABLE = "column n -9 9 empty\nindex n over 1 > 0\n"

ARGUMENTS = {
    "values": {"is_integer": [(1,)], "is_number": [([1],)], "is_name": [("n",)], "is_value": [(None,)],
               "is_column": [(COLUMN,)], "is_row": [(ROW,), ([ROW],)], "value_fits": [(COLUMN, "ten"), (COLUMN, [1])]},
    "steps": {"is_step": [(STEPS[0],), (["plus", 1],)], "are_steps": [(STEPS,)], "step_on": [(STEPS[1], 3)],
              "steps_on": [(STEPS, 3)], "erring": [(STEPS,)], "before": [(STEPS, SPANS)]},
    "asks": {"is_test": [(TENS,), (list(TENS),)], "column_of": [(TENS,)], "test_answer": [(TENS, 2)], "told": [(TENS,)]},
    "texts": {"is_condition": [(CASE,), ([CASE],)], "parts": [(CASE,)], "addresses": [(CASE,)], "nodes": [(CASE,)],
              "leaves": [(CASE,)], "tests_in": [(CASE,)], "columns_in": [(CASE,)], "depth": [(CASE,)],
              "part_at": [(CASE, (2, 0))], "put_at": [(CASE, (2, 0), SOME)], "is_plain_at": [(CASE, (2, 0))],
              "turned": [(CASE,)]},
    "asking": {"answer": [(CASE, ROW)], "asked": [(CASE, ROW)], "keeps": [(CASE, ROW)], "kept": [(SOME, ROWS)]},
    "cells": {"cells_of": [(COLUMN, [TENS, SOME])], "cell_of": [(COLUMN, [TENS, SOME], 3)],
              "met": [((True, False, ((1, 3),)), (True, True, ((2, 9),)))], "is_in": [((True, False, ((1, 3),)), [2])],
              "value_for": [((False, False, ((1, 3),)),)], "many_in": [((False, False, ((1, 3),)),)]},
    "classes": {"class_rows": [(TABLE, [CASE, SOME])], "rows_with": [(TABLE, TENS, "yes")],
                "class_row": [(TABLE, [CASE], ROW)], "are_alike": [(TABLE, [CASE], ROW, {"n": 3})],
                "answers_in": [(TABLE, CASE)], "row_apart": [(TABLE, TENS, SOME)]},
    "sevens": {"is_word": [(("no", True),)], "all_words": [()], "answers_of": [(("no", True),)],
               "word_of": [(["no", "error", "no"],)], "of_all": [([("no", True), (None, True)],)],
               "of_any": [([("no", True), (None, True)],)], "of_first": [([("unknown", True), ("yes", False)],)],
               "of_not": [(("no", True),)], "of_case": [([(("no", True), ("yes", False))], ("unknown", False))],
               "plainly": [(("unknown", True),)]},
    "planners": {"all_planners": [()]},
    "plans": {"is_plan": [(BOTH, PLAN), (BOTH, [PLAN])], "all_plans": [(CASE,)], "plans_by": [(FREE, CASE), (TEXT, CASE)],
              "plan_count": [(CASE,)], "text_plan": [(CASE,)], "run": [(FREE, CASE, CASE_PLAN, ROW)],
              "asked_by": [(FREE, BOTH, PLAN, ROW)], "kept_by": [(FREE, BOTH, PLAN, ROWS)]},
    "errs": {"word_at": [(FREE, CASE, ROW)], "words_at": [(FREE, CASE, ROW), (TEXT, CASE, ROW)],
             "can_err": [(FREE, TABLE, BOTH)], "is_error_paper": [(FREE, TABLE, BOTH, ([{"n": 0}], {(): [0, 1]}))],
             "erring_rows": [(FREE, TABLE, BOTH)], "error_paper": [(FREE, TABLE, BOTH), (TEXT, TABLE, CASE)],
             "plan_for": [(FREE, BOTH, {"n": 0}, "error")]},
    "safe": {"safe_plan": [(FREE, BOTH, ROWS), (TEXT, ("all", (SOME, TENS)), ROWS)],
             "is_safe_plan": [(FREE, BOTH, ROWS, PLAN)], "open_rows": [(FREE, BOTH, ROWS, [1])],
             "may_follow": [(FREE, BOTH, ROWS, [1])], "greatest_lot": [(FREE, BOTH, ROWS)]},
    "stuck": {"bar": [(FREE, STUCK, ROWS)], "is_bar": [(FREE, STUCK, ROWS, ("lot", (), ((0, ("leaf", (0,), 0)),)))],
              "rows_of": [(("lot", (), ((0, ("leaf", (0,), 0)),)),)]},
    "contents": {"judged": [(FREE, BOTH, ROWS)], "strength": [(FREE, BOTH, TABLE)], "kept_rows": [(FREE, BOTH, ROWS)],
                 "hard_rows": [(FREE, STUCK, TABLE)]},
    "sets": {"safe_sets": [(FREE, BOTH, ROWS)], "fewest_rows": [(FREE, STUCK, ROWS)], "few_rows": [(FREE, STUCK, ROWS)]},
    "orders": {"is_safe_order": [(FREE, BOTH, ROWS, [1, 0])], "safe_orders": [(FREE, BOTH, ROWS), (FREE, BOTH, [])],
               "count_orders": [(FREE, BOTH, ROWS)], "first_order": [(FREE, BOTH, ROWS)], "forced": [(FREE, BOTH, ROWS)]},
    "guards": {"leading": [(BOTH, GUARDS, 0)], "is_guarded": [(FREE, BOTH, ROWS, GUARDS)],
               "is_gap": [(FREE, BOTH, ROWS, [], ([0, 1], 0))], "gap": [(FREE, BOTH, ROWS, [])],
               "needless": [(FREE, BOTH, ROWS[1:], GUARDS)], "guards_for": [(FREE, BOTH, ROWS)],
               "least_guards": [(FREE, BOTH, ROWS)], "cheapest": [(FREE, BOTH, ROWS, {(1, 0): 5, (0, 1): 2})]},
    "written": {"laid": [(CASE, CASE_PLAN)], "with_guards": [(BOTH, GUARDS)]},
    "compared": {"outcomes": [(FREE, BOTH, ROWS)], "alike": [(FREE, TABLE, BOTH, CASE)],
                 "may_stand": [(FREE, TABLE, BOTH, CASE)], "is_parting": [(FREE, TABLE, BOTH, SOME, ([{"n": 0}], "errs"))],
                 "is_straying": [(FREE, TABLE, SOME, BOTH, ([{"n": 0}], "errs"))],
                 "parting": [(FREE, TABLE, BOTH, SOME)], "straying": [(FREE, TABLE, SOME, BOTH)]},
    "reports": {"surest": [(BOTH, TABLE)], "steady": [(BOTH, TABLE)], "planners_for": [([(BOTH, ROWS, [1, 3])],)],
                "fits": [(FREE, (BOTH, ROWS, [1, 3]))], "is_telling": [(FREE, TEXT, BOTH, TABLE, (BOTH, [{"n": 0}], []))],
                "plan_of": [(FREE, BOTH, [(ROWS, [1, 3])])], "telling": [(FREE, TEXT, BOTH, TABLE)]},
    "joins": {"join_ways": [(TEXT, JOIN, JOINED)], "run_join": [(TEXT, JOIN, JOINED, WAY, CONTENTS)],
              "pair_rows": [(JOIN, JOINED)], "lone_rows": [(JOIN, JOINED)], "join_can_err": [(TEXT, JOIN, JOINED)],
              "is_join_paper": [(TEXT, JOIN, JOINED, (([{"n": 0}], [{"m": 0}]), ([(0,)], {(): [0, 1, 2]})))],
              "join_paper": [(TEXT, JOIN, JOINED), (FREE, JOIN, JOINED)]},
    "shown": {"is_term": [(TERMS[0],), (TERMS,)], "term_value": [(TERMS[0], ROW)],
              "shown_lists": [(FREE, BOTH, TERMS, PLAN, ROWS)], "shown_can_err": [(FREE, TABLE, SOME, TERMS)],
              "is_shown_paper": [(FREE, TABLE, BOTH, TERMS, ([{"n": 0}], {(): [0, 1]}))],
              "shown_paper": [(FREE, TABLE, BOTH, TERMS), (TEXT, TABLE, SOME, TERMS[1:])]},
    "some": {"some_run": [(FREE, BOTH, PLAN, ROWS, ORDER)], "some_word": [(FREE, BOTH, ROWS)],
             "some_paper": [(FREE, BOTH, ROWS, "yes"), (FREE, BOTH, ROWS[:1], "no")],
             "is_some_paper": [(FREE, BOTH, ROWS, "yes", (PLAN, ORDER))]},
    "notation": {"show_test": [(TENS,)], "show_condition": [(CASE,)], "show_row": [({"n": 1, "m": None},)],
                 "show_planner": [(FREE,)], "show_table": [(TABLE,)]},
    "readers": {"read_condition": [("all(n empty, not(n <> 0))",)], "read_row": [("m=-, n=2",)],
                "read_planner": [("free folds",)], "read_table": [(TEXT_OF_TABLE,)]},
}


def filled():
    """A Store with rows and an index, of which something can be undone and done anew."""
    store = Store(TABLE)
    for row in ROWS:
        store.put(row)
    store.back()
    return store


def at_a_desk():
    desk = Desk(TABLE)
    for line in ("put n=2", "put n=-", "back"):
        desk.execute(line)
    return desk


OBJECTS = {
    ("spans", "Spans"): (lambda: Spans([(1, 4), (9, None)]), {
        "__init__": [([(1, 4), (2, 9)],)], "pairs": [()], "least": [()], "many": [()], "is_within": [(SPANS,)],
        "within": [(2, 10)], "__len__": [()], "__iter__": [()], "__contains__": [(3,)], "__or__": [(SPANS,)],
        "__and__": [(SPANS,)], "__sub__": [(Spans([(2, 3)]),)], "__invert__": [()], "__eq__": [(SPANS,)]}),
    ("tables", "Table"): (lambda: copy.deepcopy(TABLE), {
        "__init__": [([COLUMN], [TENS])], "columns": [()], "indexes": [()], "names": [()], "holds": [("n", 3), ("n", [3])],
        "has_row": [(ROW,)], "fits": [(CASE,)], "with_column": [(("m", 0, 1, False, False),)], "with_index": [(TENS,)],
        "without": [("n",)], "__len__": [()], "__contains__": [("n",)], "__getitem__": [("n",)], "__eq__": [(TABLE,)]}),
    ("planners", "Planner"): (lambda: Planner("free", folds=True), {
        "__init__": [("text",)], "with_mode": [("text",)], "with_truth": [("early", True)], "is_within": [(FREE,)],
        "__eq__": [(FREE,)]}),
    ("joins", "Join"): (lambda: copy.deepcopy(JOIN), {
        "__init__": [(TABLE, RIGHT, "n", "m")], "holds": [(CONTENTS,)], "rows": [(CONTENTS,)], "__eq__": [(JOIN,)]}),
    ("store", "Store"): (filled, {
        "__init__": [(TABLE,)], "rows": [()], "put": [({"n": 3},)], "out": [(1,)], "add": [(SOME,)], "drop": [(0,)],
        "back": [()], "again": [()], "do_all": [([("put", {"n": 3}), ("out", 0)],)], "ask": [(FREE, BOTH), (TEXT, TENS)],
        "foresee": [(FREE, BOTH)], "copied": [()], "__len__": [()]}),
    ("desk", "Desk"): (at_a_desk, {
        "__init__": [(TABLE,)], "execute": [("rows",), ("put n=3",), ("ask free: n empty",)], "store": [()]}),
}
DEEDS = ("put", "out", "add", "drop", "back", "again", "do_all", "execute", "__init__")


def frozen(thing):
    """All that can be seen of a thing, the order of the keys of dicts too."""
    if isinstance(thing, (list, tuple)):
        return (type(thing).__name__,) + tuple([frozen(one) for one in thing])
    if isinstance(thing, dict):
        return ("dict",) + tuple([(frozen(key), frozen(worth)) for key, worth in thing.items()])
    if isinstance(thing, Spans):
        return ("Spans", tuple(thing.pairs()))
    if isinstance(thing, Table):
        return ("Table", tuple(thing.columns()), tuple(thing.indexes()))
    if isinstance(thing, Planner):
        return ("Planner", thing.mode, thing.unknown, thing.folds, thing.beneath, thing.early)
    if isinstance(thing, Join):
        return ("Join", frozen(thing.left), frozen(thing.right), thing.one, thing.other, thing.partner)
    if isinstance(thing, Store):
        return ("Store", frozen(thing.rows()), frozen(thing.table), undone(thing.copied()))
    if isinstance(thing, Desk):
        return ("Desk", frozen(thing.store()))
    return (type(thing).__name__, thing)


def undone(store):
    """What a store shows when all is undone and when all is done anew; it is changed by that."""
    seen = []
    for word in ("back", "again"):
        while True:
            try:
                getattr(store, word)()
            except ValueError:
                break
            seen.append((frozen(store.rows()), frozen(store.table)))
    return tuple(seen)


def boxes(thing):
    """All lists and dicts in a thing."""
    below = list(thing) if isinstance(thing, (list, tuple)) else list(thing.values()) if isinstance(thing, dict) else []
    return [one for part in below for one in boxes(part)] + ([thing] if isinstance(thing, (list, dict)) else [])


def all_calls():
    """All functions with their arguments."""
    return [(getattr(importlib.import_module("refusedahead." + name), word), given)
            for name, words in ARGUMENTS.items() for word, lists in words.items() for given in lists]


class UnchangedTest(unittest.TestCase):

    def check_told(self, told, given):
        """What is told holds nothing twice and nothing of what was passed, its dicts ascend; then it is spoilt."""
        lists = boxes(told)
        self.assertEqual(len({id(one) for one in lists}), len(lists))
        self.assertEqual({id(one) for one in lists} & {id(one) for one in boxes(given)}, set())
        for one in lists:
            if isinstance(one, dict):
                self.assertEqual(list(one), sorted(one))
        for one in lists:
            one.clear()

    def check_call(self, function, given):
        given = copy.deepcopy(given)
        before = frozen(given)
        told = function(*given)
        found = frozen(told)
        self.assertEqual(frozen(given), before, function.__name__)
        self.check_told(told, given)
        self.assertEqual(frozen(given), before, function.__name__)
        again = function(*given)
        self.assertEqual(frozen(again), found, function.__name__)
        return found

    def test_all_functions_are_there(self):
        for name, signatures in FUNCTIONS.items():
            self.assertEqual(set(ARGUMENTS[name]), {one.partition("(")[0] for one in signatures.split()})
        for key, signatures in CLASSES.items():
            self.assertEqual(set(OBJECTS[key][1]), {one.partition("(")[0] for one in signatures.split()})

    def test_functions(self):
        for function, given in all_calls():
            self.check_call(function, given)

    def test_whatever_was_asked_ahead(self):
        source, calls = random.Random(311), all_calls()
        right = [self.check_call(function, given) for function, given in calls]
        for _ in range(3):
            for index in source.sample(range(len(calls)), len(calls)):
                function, given = calls[index]
                self.assertEqual(self.check_call(function, given), right[index], function.__name__)

    def test_the_order_of_keys_that_are_passed(self):
        for function, given in all_calls():
            if function.__name__ not in ("is_plan", "show_row"):
                self.assertEqual(frozen(function(*turned_about(copy.deepcopy(given)))),
                                 frozen(function(*copy.deepcopy(given))), function.__name__)

    def test_methods(self):
        for (name, word), (make, methods) in OBJECTS.items():
            kind = getattr(importlib.import_module("refusedahead." + name), word)
            for method, lists in methods.items():
                for given in lists:
                    if method == "__init__":
                        self.check_made(kind, given)
                    else:
                        self.check_method(make, method, given)

    def check_made(self, kind, given):
        """What an object was made with may be changed behind."""
        given = copy.deepcopy(given)
        before, made = frozen(given), kind(*given)
        seen = frozen(made)
        self.assertEqual(frozen(given), before)
        for one in boxes(given):
            one.clear()
        self.assertEqual(frozen(made), seen)

    def check_method(self, make, method, given):
        one, other, given = make(), make(), copy.deepcopy(given)
        before, seen = frozen(given), frozen(one)
        told = getattr(one, method)(*given)
        told = list(told) if method == "__iter__" else told
        found = frozen(told)
        self.assertEqual(frozen(given), before, method)
        if method not in DEEDS:
            self.assertEqual(frozen(one), seen, method)
        behind = frozen(one)
        self.check_told(told, given)
        for box in boxes(given):
            box.clear()
        self.assertEqual(frozen(one), behind, method)
        given = copy.deepcopy(thaw(before))
        told = getattr(other, method)(*given)
        self.assertEqual(frozen(list(told) if method == "__iter__" else told), found, method)
        self.assertEqual(frozen(other), behind, method)

    def test_properties(self):
        for key, words in PROPERTIES.items():
            one = OBJECTS[key][0]()
            for word in words.split():
                self.assertEqual(frozen(getattr(one, word)), frozen(getattr(one, word)))

    def test_what_a_copy_tells(self):
        store = filled()
        seen, copied = frozen(store), store.copied()
        copied.put({"n": 3})
        copied.add(SOME)
        self.assertEqual(frozen(store), seen)
        desk = at_a_desk()
        seen, told = frozen(desk), desk.store()
        told.put({"n": 3})
        self.assertEqual(frozen(desk), seen)


def thaw(told):
    """The arguments that were frozen."""
    kind, rest = told[0], told[1:]
    if kind in ("list", "tuple"):
        found = [thaw(one) for one in rest]
        return found if kind == "list" else tuple(found)
    if kind == "dict":
        return {thaw(key): thaw(worth) for key, worth in rest}
    made = {"Spans": lambda: Spans(rest[0]), "Table": lambda: Table(rest[0], rest[1]), "Join": lambda: Join(
        thaw(rest[0]), thaw(rest[1]), rest[2], rest[3], partner=rest[4]), "Planner": lambda: Planner(
            rest[0], unknown=rest[1], folds=rest[2], beneath=rest[3], early=rest[4])}
    return made[kind]() if kind in made else rest[0]


def turned_about(thing):
    """The thing with the keys of each dict in it the other way about."""
    if isinstance(thing, dict):
        return {key: turned_about(worth) for key, worth in list(thing.items())[::-1]}
    if isinstance(thing, list):
        return [turned_about(one) for one in thing]
    return tuple([turned_about(one) for one in thing]) if isinstance(thing, tuple) else thing


if __name__ == "__main__":
    unittest.main()
