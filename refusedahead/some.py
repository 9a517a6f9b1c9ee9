"""Whether some row is kept: rows are asked one by one until one is."""

from refusedahead.contents import has_safe_plan
from refusedahead.errs import plan_for, root_words
from refusedahead.plans import folds_err, is_order, is_plan_by, run, text_plan
from refusedahead.safe import safe_plan


def some_run(planner, condition, plan, contents, order):
    """What is answered by a plan and an order of the rows: yes if one is kept, no if none is, or error."""
    if folds_err(planner, condition):
        return "error"
    for index in order:
        said = run(planner, condition, plan, contents[index])
        if said in ("error", "yes"):
            return said
    return "no"


def some_word(planner, condition, contents):
    """The word of what is answered, by all plans that the Planner may choose and all orders."""
    if folds_err(planner, condition):
        return (None, True)
    words = root_words(planner, condition, contents)
    errs = any([word[1] for word in words])
    # A row that is kept may be asked first; where there is none, all rows are asked by one plan.
    if any([word[0] == "yes" for word in words]):
        return ("yes", errs)
    return ("no" if has_safe_plan(planner, condition, contents, words) else None, errs)


def _paper_at(planner, condition, contents, index, said):
    """A tuple (plan, order) by which the row with this index is asked first and answers said."""
    others = [other for other in range(len(contents)) if other != index]
    return (plan_for(planner, condition, contents[index], said), [index] + others)


def some_paper(planner, condition, contents, said):
    """A tuple (plan, order) by which said is answered, or None if there is none."""
    every = list(range(len(contents)))
    if folds_err(planner, condition):
        return (text_plan(condition), every) if said == "error" else None
    words = root_words(planner, condition, contents)
    keeping = [index for index in every if words[index][0] == "yes"]
    erring = [index for index in every if words[index][1]]
    if said == "yes" and len(keeping) > 0:
        return _paper_at(planner, condition, contents, keeping[0], said)
    if said == "error" and len(erring) > 0:
        return _paper_at(planner, condition, contents, erring[0], said)
    if said != "no" or len(keeping) > 0:
        return None
    plan = safe_plan(planner, condition, contents)
    return None if plan is None else (plan, every)


def is_some_paper(planner, condition, contents, said, thing):
    """Whether thing is a tuple (plan, order) by which said is answered."""
    if not isinstance(thing, tuple) or len(thing) != 2:
        return False
    plan, order = thing
    if not is_plan_by(planner, condition, plan) or not is_order(order, len(contents)):
        return False
    return some_run(planner, condition, plan, contents, order) == said
