"""Words: what the plans of a condition answer at a row that do not err, and whether some err."""

from refusedahead.asks import OPPOSITES

VALUES = ("no", "unknown", "yes")

# The value of a node is the first of these that one of its parts has, or else the last one.
RANKS_OF_ALL = ("no", None, "unknown", "yes")
RANKS_OF_ANY = ("yes", None, "unknown", "no")


def is_word(thing):
    """Whether thing is a word."""
    if not isinstance(thing, tuple) or len(thing) != 2 or not isinstance(thing[1], bool):
        return False
    value, errs = thing
    if value is None:
        return errs
    return isinstance(value, str) and value in VALUES


def all_words():
    """The list of the seven words."""
    return [(value, errs) for value in VALUES for errs in (False, True)] + [(None, True)]


def answers_of(word):
    """The ascending list of the answers that a word stands for."""
    value, errs = word
    return (["error"] if errs else []) + ([] if value is None else [value])


def word_of(answers):
    """The word that stands for a list of answers."""
    values = [said for said in answers if said != "error"]
    return (values[0] if len(values) > 0 else None, "error" in answers)


def _of_node(words, ranks):
    """The word of an all or an any."""
    values, errs = [word[0] for word in words], True in [word[1] for word in words]
    for value in ranks:
        if value in values:
            return (value, errs)
    return (ranks[-1], errs)


def of_all(words):
    """The word of an all whose parts have these words."""
    return _of_node(words, RANKS_OF_ALL)


def of_any(words):
    """The word of an any whose parts have these words."""
    return _of_node(words, RANKS_OF_ANY)


def _behind(word, other):
    """The word of asking another part behind one that has a value."""
    return (other[0], word[1] or other[1])


def of_first(words):
    """The word of a first whose parts have these words."""
    found = ("unknown", False)
    for word in words[::-1]:
        found = _behind(word, found) if word[0] == "unknown" else word
    return found


def of_not(word):
    """The word of a not whose part has this word."""
    value, errs = word
    return (None if value is None else OPPOSITES[value], errs)


def of_case(pairs, word):
    """The word of a case whose whens and thens have the words in pairs, and its else this one."""
    found = word
    for when, then in pairs[::-1]:
        if when[0] is None:
            found = when
        else:
            found = _behind(when, then if when[0] == "yes" else found)
    return found


def plainly(word):
    """The word with no in the place of unknown."""
    value, errs = word
    return ("no" if value == "unknown" else value, errs)
