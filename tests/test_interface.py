"""The interface: its names, arguments and files, as the document lists them."""

import importlib
import inspect
import unittest

FUNCTIONS = {
    "values": "is_integer(thing) is_number(thing) is_name(thing) is_value(thing) is_column(thing) is_row(thing) "
              "value_fits(column,thing)",
    "steps": "is_step(thing) are_steps(thing) step_on(step,number) steps_on(steps,number) erring(steps) before(steps,spans)",
    "asks": "is_test(thing) column_of(test) test_answer(test,value) told(test)",
    "texts": "is_condition(thing) parts(condition) addresses(condition) nodes(condition) leaves(condition) "
             "tests_in(condition) columns_in(condition) depth(condition) part_at(condition,address) "
             "put_at(condition,address,other) is_plain_at(condition,address) turned(condition)",
    "asking": "answer(condition,row) asked(condition,row) keeps(condition,row) kept(condition,contents)",
    "cells": "cells_of(column,tests) cell_of(column,tests,value) met(one,other) is_in(cell,thing) value_for(cell) "
             "many_in(cell)",
    "classes": "class_rows(table,conditions) rows_with(table,condition,said) class_row(table,conditions,row) "
               "are_alike(table,conditions,one,other) answers_in(table,condition) row_apart(table,one,other)",
    "sevens": "is_word(thing) all_words() answers_of(word) word_of(answers) of_all(words) of_any(words) of_first(words) "
              "of_not(word) of_case(pairs,word) plainly(word)",
    "planners": "all_planners()",
    "plans": "is_plan(condition,thing) all_plans(condition) plans_by(planner,condition) plan_count(condition) "
             "text_plan(condition) run(planner,condition,plan,row) asked_by(planner,condition,plan,row) "
             "kept_by(planner,condition,plan,contents)",
    "errs": "word_at(planner,condition,row) words_at(planner,condition,row) can_err(planner,table,condition) "
            "is_error_paper(planner,table,condition,thing) erring_rows(planner,table,condition) "
            "error_paper(planner,table,condition) plan_for(planner,condition,row,said)",
    "safe": "safe_plan(planner,condition,rows) is_safe_plan(planner,condition,rows,thing) "
            "open_rows(planner,condition,rows,lot) may_follow(planner,condition,rows,lot) "
            "greatest_lot(planner,condition,rows)",
    "stuck": "bar(planner,condition,rows) is_bar(planner,condition,rows,thing) rows_of(bar)",
    "contents": "judged(planner,condition,rows) strength(planner,condition,table) kept_rows(planner,condition,rows) "
                "hard_rows(planner,condition,table)",
    "sets": "safe_sets(planner,condition,rows) fewest_rows(planner,condition,rows) few_rows(planner,condition,rows)",
    "orders": "is_safe_order(planner,condition,rows,thing) safe_orders(planner,condition,rows) "
              "count_orders(planner,condition,rows) first_order(planner,condition,rows) forced(planner,condition,rows)",
    "guards": "leading(condition,guards,part) is_guarded(planner,condition,rows,guards) "
              "is_gap(planner,condition,rows,guards,thing) gap(planner,condition,rows,guards) "
              "needless(planner,condition,rows,guards) guards_for(planner,condition,rows) "
              "least_guards(planner,condition,rows) cheapest(planner,condition,rows,prices)",
    "written": "laid(condition,plan) with_guards(condition,guards)",
    "compared": "outcomes(planner,condition,rows) alike(planner,table,one,other) may_stand(planner,table,one,other) "
                "is_parting(planner,table,one,other,thing) is_straying(planner,table,one,other,thing) "
                "parting(planner,table,one,other) straying(planner,table,one,other)",
    "reports": "surest(condition,table) steady(condition,table) planners_for(reports) fits(planner,report) "
               "is_telling(one,other,condition,table,thing) plan_of(planner,condition,told) "
               "telling(one,other,condition,table)",
    "joins": "join_ways(planner,join,condition) run_join(planner,join,condition,way,contents) pair_rows(join,condition) "
             "lone_rows(join,condition) join_can_err(planner,join,condition) "
             "is_join_paper(planner,join,condition,thing) join_paper(planner,join,condition)",
    "shown": "is_term(thing) term_value(term,row) shown_lists(planner,condition,terms,plan,contents) "
             "shown_can_err(planner,table,condition,terms) is_shown_paper(planner,table,condition,terms,thing) "
             "shown_paper(planner,table,condition,terms)",
    "some": "some_run(planner,condition,plan,contents,order) some_word(planner,condition,contents) "
            "some_paper(planner,condition,contents,said) is_some_paper(planner,condition,contents,said,thing)",
    "notation": "show_test(test) show_condition(condition) show_row(row) show_planner(planner) show_table(table)",
    "readers": "read_condition(text) read_row(text) read_planner(text) read_table(text)",
}

ERRORS = ("Wrong(place) Errs(number) NoPart(address) NoColumn(name) Twice(name) NoRow(index) Refused(index) Ring(part) "
          "Stopped(index) Nothing() BadDeed() NoText(line) NoCommand()")

CLASSES = {
    ("spans", "Spans"): "__init__(pairs) pairs() least() many() is_within(other) within(low,high) __len__() __iter__() "
                        "__contains__(x) __or__(other) __and__(other) __sub__(other) __invert__() __eq__(other)",
    ("tables", "Table"): "__init__(columns,indexes=()) columns() indexes() names() holds(name,value) has_row(thing) "
                         "fits(condition) with_column(column) with_index(test) without(name) __len__() __contains__(x) "
                         "__getitem__(at) __eq__(other)",
    ("planners", "Planner"): "__init__(mode,*,unknown=False,folds=False,beneath=False,early=False) with_mode(mode) "
                             "with_truth(word,truth) is_within(other) __eq__(other)",
    ("joins", "Join"): "__init__(left,right,one,other,*,partner=False) holds(thing) rows(contents) __eq__(other)",
    ("store", "Store"): "__init__(table) rows() put(row) out(index) add(test) drop(index) back() again() do_all(deeds) "
                        "ask(planner,condition) foresee(planner,condition) copied() __len__()",
    ("desk", "Desk"): "__init__(table) execute(line) store()",
}

PROPERTIES = {("planners", "Planner"): "mode unknown folds beneath early", ("store", "Store"): "table",
              ("joins", "Join"): "left right one other partner"}


def module(name):
    return importlib.import_module("refusedahead." + name)


def shown(function, own):
    """The signature of a function, or of a method without its own object."""
    parameters = list(inspect.signature(function).parameters.values())[1 if own else 0:]
    signature = inspect.Signature(parameters)
    return function.__name__ + str(signature).replace(" ", "")


class InterfaceTest(unittest.TestCase):

    def test_functions(self):
        for name, signatures in FUNCTIONS.items():
            for signature in signatures.split():
                function = getattr(module(name), signature.partition("(")[0])
                self.assertEqual([shown(function, False), function.__module__], [signature, "refusedahead." + name])

    def test_errors(self):
        errors = module("errors")
        self.assertEqual(errors.AskError.__bases__, (ValueError,))
        for signature in ERRORS.split():
            error = getattr(errors, signature.partition("(")[0])
            self.assertEqual([error.__bases__, error.__module__], [(errors.AskError,), "refusedahead.errors"])
            fields = signature.partition("(")[2][:-1]
            thing = object()
            if fields:
                self.assertIs(getattr(error(thing), fields), thing)
            else:
                self.assertIsInstance(error(), ValueError)

    def test_classes(self):
        for (name, word), signatures in CLASSES.items():
            kind = getattr(module(name), word)
            self.assertEqual([kind.__module__, kind.__bases__], ["refusedahead." + name, (object,)])
            for signature in signatures.split():
                method = vars(kind)[signature.partition("(")[0]]
                self.assertEqual(shown(method, True), signature)

    def test_properties(self):
        for (name, word), properties in PROPERTIES.items():
            for one in properties.split():
                self.assertIsInstance(vars(getattr(module(name), word))[one], property)


if __name__ == "__main__":
    unittest.main()
