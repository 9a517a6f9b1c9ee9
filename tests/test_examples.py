"""The examples of the document, answered as they stand there."""

import doctest
import os
import unittest

README = os.path.join(os.path.dirname(os.path.abspath(__file__)), "..", "README.md")

STAGE_1 = """
>>> from refusedahead.spans import Spans
>>> from refusedahead.steps import before, erring, step_on, steps_on
>>> some = Spans([(4, 6), (1, 3), (9, None)])
>>> [some.pairs(), (~some).pairs(), 6 in some, some.many(), Spans([(1, 2)]).is_within(some), some.least(), (some - Spans([(2, 9)])).pairs()]
[[(1, 6), (9, None)], [(None, 0), (7, 8)], True, None, True, 1, [(1, 1), (10, None)]]
>>> [steps_on((("plus", 1), ("over", 10)), 3), before((("over", 10),), Spans([(4, None)])).pairs(), erring((("plus", 1), ("over", 10))).pairs()]
[2, [(1, 2)], [(-1, -1)]]
>>> [before((("times", -2),), Spans([(1, 4)])).pairs(), before((("into", 3), ("found", ((0, 7), (2, 9)))), Spans([(9, 9)])).pairs()]
[[(-2, -1)], [(6, 8)]]
"""

STAGE_2 = """
>>> from refusedahead.asking import answer, asked, kept
>>> from refusedahead.asks import test_answer, told
>>> from refusedahead.texts import addresses, is_plain_at, parts, tests_in, turned
>>> some, tens = ("asks", "n", (), "<>", 0), ("asks", "n", (("over", 10),), ">", 3)
>>> guarded = ("all", (some, tens))
>>> [test_answer(tens, 2), test_answer(tens, 0), test_answer(tens, None), test_answer(tens, "ten"), told(tens)["yes"].pairs()]
['yes', 'error', 'unknown', 'error', [(1, 2)]]
>>> [answer(guarded, {"n": 0}), answer(("all", (tens, some)), {"n": 0}), asked(guarded, {"n": 0}), asked(guarded, {"n": 2})]
['no', 'error', [((0,), 'no')], [((0,), 'yes'), ((1,), 'yes')]]
>>> case = ("case", ((some, tens),), ("always", "no"))
>>> [addresses(case), is_plain_at(("not", case), (0, 0)), is_plain_at(("not", case), (0, 1)), kept(case, [{"n": 0}, {"n": 1}, {"n": None}])]
[[(), (0,), (1,), (2,)], True, False, [1]]
>>> turned(("all", (some, ("not", tens)))) == ("any", (("not", some), tens))
True
"""

STAGE_3 = """
>>> from refusedahead.cells import cell_of, cells_of, value_for
>>> from refusedahead.classes import answers_in, class_row, class_rows, row_apart
>>> from refusedahead.tables import Table
>>> share, column = ("asks", "n", (("over", 12),), ">", 3), ("n", -5, 20, True, False)
>>> cells_of(column, [share])
[(True, False, ()), (False, False, ((-5, -1), (4, 20))), (False, False, ((0, 0),)), (False, False, ((1, 3),))]
>>> [cell_of(column, [share], 7) == cell_of(column, [share], -2), value_for((False, False, ((1, 3),)))]
[True, 1]
>>> table = Table([column, ("m", 1, 2, False, False)])
>>> [class_row(table, [share], {"m": 2, "n": 9}), len(class_rows(table, [share])), len(class_rows(table.with_index(share), [share]))]
[{'m': 1, 'n': -5}, 4, 3]
>>> [answers_in(table, share), answers_in(table.with_index(share), share), row_apart(table, ("not", ("not", share)), share)]
[['error', 'no', 'unknown', 'yes'], ['no', 'unknown', 'yes'], None]
"""

STAGE_4 = """
>>> from refusedahead.errs import can_err, is_error_paper, word_at, words_at
>>> from refusedahead.planners import Planner
>>> from refusedahead.plans import all_plans, asked_by, kept_by, run
>>> from refusedahead.sevens import answers_of, of_all, of_any, of_case
>>> from refusedahead.tables import Table
>>> [of_all([("yes", False), ("no", True)]), of_all([(None, True), ("yes", False)]), of_any([(None, True), ("yes", False)])]
[('no', True), (None, True), ('yes', True)]
>>> [of_case([(("no", True), ("yes", False))], ("unknown", False)), answers_of(("no", True))]
[('unknown', True), ['error', 'no']]
>>> free, text, row, table = Planner("free"), Planner("text"), {"n": 0}, Table([("n", -5, 20, True, False)])
>>> share, guard = ("asks", "n", (("over", 12),), ">", 3), ("asks", "n", (), "<>", 0)
>>> both, other = ("all", (share, guard)), ("all", (guard, share))
>>> [all_plans(both), run(free, both, {(): [1, 0]}, row), asked_by(free, both, {(): [1, 0]}, row), kept_by(text, both, {(): [0, 1]}, [{"n": 2}, {"n": 5}])]
[[{(): [0, 1]}, {(): [1, 0]}], 'no', [((1,), 'no')], [0]]
>>> [word_at(free, both, row), word_at(text, both, row), word_at(text, other, row), words_at(free, both, row)]
[('no', True), (None, True), ('no', False), {(): ('no', True), (0,): (None, True), (1,): ('no', False)}]
>>> [can_err(text, table, other), is_error_paper(free, table, both, ([row], {(): [0, 1]}))]
[False, True]
"""

STAGE_5 = """
>>> from refusedahead.contents import judged, kept_rows, strength
>>> from refusedahead.planners import Planner
>>> from refusedahead.safe import greatest_lot, may_follow, safe_plan
>>> from refusedahead.sets import fewest_rows, safe_sets
>>> from refusedahead.stuck import bar, is_bar, rows_of
>>> from refusedahead.tables import Table
>>> free, text = Planner("free"), Planner("text")
>>> some, tens = ("asks", "n", (), "<>", 0), ("asks", "n", (("over", 10),), ">", 3)
>>> both, rows = ("all", (tens, some)), [{"n": 0}, {"n": 2}]
>>> [safe_plan(free, both, rows), safe_plan(text, both, rows), may_follow(free, both, rows, []), greatest_lot(free, both, rows)]
[{(): [1, 0]}, None, [1], [0, 1]]
>>> [judged(free, both, rows), judged(free, both, rows[1:]), judged(text, both, rows), kept_rows(free, both, rows)]
['hangs', 'sure', 'never', [1]]
>>> table = Table([("n", -9, 9, False, False)])
>>> [strength(free, both, table), strength(text, both, table), bar(free, ("all", (tens,)), rows)]
['safe', 'never', ('lot', (), ((0, ('leaf', (0,), 0)),))]
>>> ring = ("all", tuple([("asks", name, (("over", 1),), ">", 0) for name in ("a", "b", "c")]))
>>> three = [{"a": 0, "b": 2, "c": 1}, {"a": 1, "b": 0, "c": 2}, {"a": 2, "b": 1, "c": 0}]
>>> [fewest_rows(free, ring, three), safe_sets(free, ring, three), rows_of(bar(free, ring, three)), is_bar(free, ring, three[:2], bar(free, ring, three))]
[3, [(0, 1), (0, 2), (1, 2)], [0, 1, 2], False]
"""

STAGE_6 = """
>>> from refusedahead.contents import judged
>>> from refusedahead.guards import cheapest, gap, is_guarded, least_guards
>>> from refusedahead.orders import count_orders, forced, safe_orders
>>> from refusedahead.planners import Planner
>>> from refusedahead.written import laid, with_guards
>>> free = Planner("free")
>>> some, tens = ("asks", "n", (), "<>", 0), ("asks", "n", (("over", 10),), ">", 3)
>>> both, rows = ("all", (tens, some)), [{"n": 0}, {"n": 2}]
>>> [safe_orders(free, both, rows), forced(free, both, rows), count_orders(free, both, rows[1:])]
[[[1, 0]], [(1, 0)], 2]
>>> [is_guarded(free, both, rows, [(1, 0)]), gap(free, both, rows, []), cheapest(free, both, rows, {(1, 0): 5})]
[True, ([0, 1], 0), (5, [(1, 0)])]
>>> ring = ("all", tuple([("asks", name, (("over", 1),), ">", 0) for name in ("a", "b", "c")]))
>>> least_guards(free, ring, [{"a": 0, "b": 2, "c": 1}, {"a": 1, "b": 0, "c": 2}])
[[(1, 0), (2, 1)]]
>>> with_guards(both, [(1, 0)]) == ("all", (("case", ((("not", some), ("always", "no")),), tens), some))
True
>>> [judged(free, with_guards(both, [(1, 0)]), rows), laid(both, {(): [1, 0]}) == ("all", (some, tens))]
['sure', True]
"""

STAGE_7 = """
>>> from refusedahead.compared import alike, is_parting, may_stand, outcomes, parting
>>> from refusedahead.planners import Planner
>>> from refusedahead.reports import planners_for, surest
>>> from refusedahead.tables import Table
>>> free, table = Planner("free"), Table([("n", -9, 9, False, False)])
>>> some, tens = ("asks", "n", (), "<>", 0), ("asks", "n", (("over", 10),), ">", 3)
>>> both, case = ("all", (tens, some)), ("case", ((some, tens),), ("always", "no"))
>>> [outcomes(free, both, [{"n": 0}, {"n": 1}]), alike(free, table, both, case), may_stand(free, table, both, case), may_stand(free, table, case, both)]
[[[1], 'errs'], False, True, False]
>>> [is_parting(free, table, both, case, parting(free, table, both, case)), is_parting(free, table, both, case, ([{"n": 0}], "errs"))]
[True, True]
>>> [surest(("all", (some, tens)), table), planners_for([(both, [{"n": 0}], [])])]
[[('text', False, False), ('text', False, True), ('text', True, False), ('text', True, True)], [('free', False, False), ('free', False, True), ('free', True, False), ('free', True, True)]]
"""

STAGE_8 = """
>>> from refusedahead.joins import Join, join_can_err, join_ways, pair_rows, run_join
>>> from refusedahead.planners import Planner
>>> from refusedahead.shown import shown_can_err, shown_lists
>>> from refusedahead.some import some_paper, some_word
>>> from refusedahead.tables import Table
>>> left, right = Table([("n", 0, 9, False, False)]), Table([("key", 5, 12, True, False)])
>>> join, share = Join(left, right, "n", "key"), ("asks", "n", (("over", 12),), ">", 1)
>>> [join.rows(([{"n": 0}, {"n": 7}], [{"key": 7}, {"key": None}])), pair_rows(join, share)]
[[{'key': 7, 'n': 7}], [{'key': 5, 'n': 5}, {'key': 7, 'n': 7}]]
>>> behind, beneath, terms = Planner("text"), Planner("text", beneath=True), [("n", (("over", 60),))]
>>> [join_can_err(behind, join, share), join_can_err(beneath, join, share), join_ways(beneath, join, share)]
[False, True, [([], {}), ([()], {})]]
>>> [run_join(beneath, join, share, ([()], {}), ([{"n": 0}], [])), run_join(beneath, join, share, ([], {}), ([{"n": 0}], []))]
[None, []]
>>> [shown_lists(behind, share, terms, {}, [{"n": 5}, {"n": 9}]), shown_can_err(behind, left, ("empty", "n"), terms)]
[[[12]], False]
>>> both = ("all", (share, ("asks", "n", (), "<>", 0)))
>>> [some_word(Planner("free"), both, [{"n": 0}, {"n": 2}]), some_word(Planner("free"), both, [{"n": 2}]), some_paper(behind, both, [{"n": 2}], "no")]
[('yes', True), ('yes', False), None]
"""

STAGE_9 = r"""
>>> from refusedahead.desk import Desk
>>> from refusedahead.notation import show_condition, show_row
>>> from refusedahead.readers import read_condition, read_planner, read_table
>>> from refusedahead.store import Store
>>> table = read_table("column n -9 9 empty\nindex n over 1 > 0\n")
>>> [len(table), table.indexes(), show_row({"t": "ten", "n": None}), show_condition(("not", ("empty", "n")))]
[1, [('asks', 'n', (('over', 1),), '>', 0)], 'n=-, t=ten', 'not(n empty)']
>>> read_condition("case(n <> 0 ? n over 10 > 3, always no)") == ("case", ((("asks", "n", (), "<>", 0), ("asks", "n", (("over", 10),), ">", 3)),), ("always", "no"))
True
>>> [read_planner("free folds").folds, read_planner("free folds").unknown, read_planner("text").mode]
[True, False, 'text']
>>> desk = Desk(read_table("column n -9 9 empty\n"))
>>> [desk.execute(line) for line in ("put n=0", "put n=2", "ask free: all(n over 10 > 3, n <> 0)", "foresee free: n over 10 > 3")]
['1', '2', 'hangs 1', 'never']
>>> [desk.execute(line) for line in ("out 0", "add n over 1 > 0", "foresee free: n over 10 > 3", "back", "back", "rows")]
['1', '1', 'sure', '1', '2', 'n=0\nn=2\n']
"""


class ExamplesTest(unittest.TestCase):

    def check(self, text, name):
        example = doctest.DocTestParser().get_doctest(text, {}, name, None, 0)
        self.assertGreater(len(example.examples), 0)
        self.assertEqual(doctest.DocTestRunner(verbose=False).run(example).failed, 0)

    def test_stage_1(self):
        self.check(STAGE_1, "stage 1")

    def test_stage_2(self):
        self.check(STAGE_2, "stage 2")

    def test_stage_3(self):
        self.check(STAGE_3, "stage 3")

    def test_stage_4(self):
        self.check(STAGE_4, "stage 4")

    def test_stage_5(self):
        self.check(STAGE_5, "stage 5")

    def test_stage_6(self):
        self.check(STAGE_6, "stage 6")

    def test_stage_7(self):
        self.check(STAGE_7, "stage 7")

    def test_stage_8(self):
        self.check(STAGE_8, "stage 8")

    def test_stage_9(self):
        self.check(STAGE_9, "stage 9")

    def test_readme(self):
        with open(README, encoding="utf-8") as file:
            text = file.read().replace("```", "")
        self.check(text, "README")


if __name__ == "__main__":
    unittest.main()
