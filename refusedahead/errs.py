"""Which plans err at a row, and whether one can at some contents of a table."""

from refusedahead.asking import leaf_answer
from refusedahead.classes import class_rows
from refusedahead.plans import asker_by, folds_err, is_plan_by, kept_by, run, text_plan
from refusedahead.sevens import answers_of, of_all, of_any, of_case, of_first, of_not, plainly, word_of
from refusedahead.texts import DECIDES, NODES, parts, places, plain_parts


def _free_word(condition, below, row):
    """The word of a condition in mode free, below being the words of its parts."""
    kind = condition[0]
    if kind == "all":
        return of_all(below)
    if kind == "any":
        return of_any(below)
    if kind == "first":
        return of_first(below)
    if kind == "not":
        return of_not(below[0])
    if kind == "case":
        return of_case(list(zip(below[:-1:2], below[1::2])), below[-1])
    return word_of([leaf_answer(condition, row)])


def _free_words(planner, spots, row):
    """The dict from addresses to words in mode free, spots being the places of a condition."""
    found = {}
    # Backwards, the parts of each part stand ahead of it.
    for address, part, plain in spots[::-1]:
        below = [found[address + (index,)] for index in range(len(parts(part)))]
        word = _free_word(part, below, row)
        found[address] = plainly(word) if plain and planner.unknown else word
    return {address: found[address] for address, _, _ in spots}


def _text_word(planner, part, plain, row):
    """The word of a part where there is one plan; without orders the text is followed."""
    return word_of([asker_by(planner, {}, row).said(part, (), plain)])


def _words(planner, spots, row):
    """The dict from addresses to words, spots being the places of a condition."""
    if planner.mode == "free":
        return _free_words(planner, spots, row)
    return {address: _text_word(planner, part, plain, row) for address, part, plain in spots}


def words_at(planner, condition, row):
    """The dict from all addresses to the words of the parts, each asked by itself."""
    return _words(planner, places(condition), row)


def words_over(planner, condition, rows):
    """The list of what words_at returns at each of some rows."""
    spots = places(condition)
    return [_words(planner, spots, row) for row in rows]


def _root_word(condition, plain, lowers, row):
    """The word of a condition in mode free; with lowers, unknown at a plain place is taken for no."""
    below = [_root_word(part, truth, lowers, row)
             for part, truth in zip(parts(condition), plain_parts(condition, plain))]
    word = _free_word(condition, below, row)
    return plainly(word) if plain and lowers else word


def root_words(planner, condition, rows):
    """The list of the words of what a condition answers at each of some rows."""
    if folds_err(planner, condition):
        return [(None, True)] * len(rows)
    if planner.mode == "free":
        return [_root_word(condition, True, planner.unknown, row) for row in rows]
    return [_text_word(planner, condition, True, row) for row in rows]


def word_at(planner, condition, row):
    """The word of what a condition answers at a row."""
    return root_words(planner, condition, [row])[0]


def erring_rows(planner, table, condition):
    """The list of the rows of classes at which some plan errs."""
    rows = class_rows(table, [condition])
    return [row for row, word in zip(rows, root_words(planner, condition, rows)) if word[1]]


def can_err(planner, table, condition):
    """Whether some plan errs at some contents of a table."""
    return folds_err(planner, condition) or len(erring_rows(planner, table, condition)) > 0


def error_paper(planner, table, condition):
    """A tuple (contents, plan) of at most one row and a plan that errs there, or None."""
    if folds_err(planner, condition):
        return ([], text_plan(condition))
    rows = erring_rows(planner, table, condition)[:1]
    return (rows, plan_for(planner, condition, rows[0], "error")) if len(rows) > 0 else None


def is_error_paper(planner, table, condition, thing):
    """Whether thing is a tuple (contents, plan) of at most one row and a plan that errs there."""
    if not isinstance(thing, tuple) or len(thing) != 2:
        return False
    contents, plan = thing
    if not isinstance(contents, list) or len(contents) > 1:
        return False
    if not all([table.has_row(row) for row in contents]) or not is_plan_by(planner, condition, plan):
        return False
    return kept_by(planner, condition, plan, contents) is None


def _order_for(part, address, words, said):
    """An order of the parts of a node by which it answers said, if some order does."""
    below = [words[address + (index,)] for index in range(len(part[1]))]
    if said == "error":
        leading = [index for index, word in enumerate(below) if word[1]]
    else:
        leading = [index for index, word in enumerate(below) if word[0] == DECIDES[part[0]]]
    first = leading[:1]
    return first + [index for index in range(len(below)) if index not in first]


def plan_for(planner, condition, row, said):
    """A plan by which a condition answers said at a row, or None if there is none."""
    if planner.mode != "free" or folds_err(planner, condition):
        plan = text_plan(condition)
        return plan if run(planner, condition, plan, row) == said else None
    words = words_at(planner, condition, row)
    if said not in answers_of(words[()]):
        return None
    spots = places(condition)
    # Each node goes by its own word: what may err comes first, or what decides.
    return {address: _order_for(part, address, words, said) for address, part, _ in spots if part[0] in NODES}
