"""Conditions, rows, planners and tables with their texts for the tests, written and checked once more by itself."""

import re

from refusedahead.planners import Planner
from refusedahead.tables import Table

BOUND = 10 ** 12
NAMES = ["n", "m", "all", "any", "not", "case", "first", "always", "found", "plus", "empty", "number", "index", "column",
         "yes", "eightabc", "put", "unknown"]
SIGNS = ["=", "<>", "<", "<=", ">", ">="]
ANSWERS = ["error", "no", "unknown", "yes"]
MODES, TRUTHS = ["every", "free", "text"], ["unknown", "folds", "beneath", "early"]

NUMBER = r"(?:0|-?[1-9][0-9]{0,59})"
NAME = r"[a-z]{1,8}"
ENTRIES = rf"(?:-|{NUMBER}:{NUMBER}(?:,{NUMBER}:{NUMBER})*)"
STEP = rf"(?:plus {NUMBER}|times {NUMBER}|into {NUMBER}|over {NUMBER}|found {ENTRIES})"
TEST = re.compile(rf"(?:{NAME} empty|{NAME} number|{NAME}(?: {STEP})* (?:=|<>|<|<=|>|>=) {NUMBER})")
COLUMN = re.compile(rf"column ({NAME}) ({NUMBER}) ({NUMBER})(?: empty)?(?: words)?")
ENTRY = rf"({NAME})=(?:-|{NUMBER}|{NAME})"


def make_number(source):
    return source.choice((0, 1, -1, source.randrange(-20, 21), BOUND, -BOUND, source.randrange(-BOUND, BOUND)))


def make_value(source):
    return source.choice((None, make_number(source), source.choice(NAMES), 10 ** 60 - 1, 1 - 10 ** 60, 7))


def make_step(source):
    """A step and its text."""
    kind = source.choice(("plus", "times", "into", "over", "found"))
    if kind == "found":
        keys = sorted({make_number(source) for _ in range(source.randrange(4))})
        pairs = tuple([(key, make_number(source)) for key in keys])
        return (kind, pairs), "found " + (",".join([str(a) + ":" + str(b) for a, b in pairs]) or "-")
    number = make_number(source)
    number = number or 5 if kind == "times" else abs(number) or 3 if kind == "into" else number
    return (kind, number), kind + " " + str(number)


def make_test(source):
    """A test and its text."""
    name = source.choice(NAMES)
    if source.random() < 0.3:
        kind = source.choice(("empty", "number"))
        return (kind, name), name + " " + kind
    steps = [make_step(source) for _ in range(source.randrange(5))]
    sign, number = source.choice(SIGNS), make_number(source)
    test = ("asks", name, tuple([step for step, _ in steps]), sign, number)
    return test, " ".join([name] + [text for _, text in steps] + [sign, str(number)])


def make_condition(source, levels):
    """A condition and its text."""
    kind = source.choice(("all", "any", "first", "not", "case", "test", "always")) if levels else "test"
    if kind == "test":
        return make_test(source)
    if kind == "always":
        answer = source.choice(ANSWERS)
        return (kind, answer), "always " + answer
    if kind == "not":
        part, text = make_condition(source, levels - 1)
        return (kind, part), "not(" + text + ")"
    below = [make_condition(source, levels - 1) for _ in range(source.randrange(4))]
    if kind != "case":
        return (kind, tuple([part for part, _ in below])), kind + "(" + ", ".join([text for _, text in below]) + ")"
    thens, (otherwise, last) = [make_condition(source, levels - 1) for _ in below], make_condition(source, levels - 1)
    pairs = tuple([(one[0], other[0]) for one, other in zip(below, thens)])
    return (kind, pairs, otherwise), "case(" + "".join(
        [one[1] + " ? " + other[1] + ", " for one, other in zip(below, thens)]) + last + ")"


def make_row(source):
    """A row and its text."""
    row = {name: make_value(source) for name in source.sample(NAMES, source.randrange(4))}
    texts = [name + "=" + ("-" if row[name] is None else str(row[name])) for name in sorted(row)]
    return row, ", ".join(texts) or "-"


def make_planner(source):
    """A Planner and its text."""
    mode, truths = source.choice(MODES), {word: source.random() < 0.5 for word in TRUTHS}
    return Planner(mode, **truths), " ".join([mode] + [word for word in TRUTHS if truths[word]])


def make_table(source):
    """A Table and its text."""
    columns, text = [], ""
    for name in source.sample(NAMES, source.randrange(4)):
        low, high = sorted((make_number(source), make_number(source)))
        empty, words = source.random() < 0.5, source.random() < 0.5
        columns.append((name, low, high, empty, words))
        text += f"column {name} {low} {high}" + (" empty" if empty else "") + (" words" if words else "") + "\n"
    indexes = []
    for _ in range(source.randrange(3) if columns else 0):
        test, told = make_test(source)
        while test[1] not in [column[0] for column in columns]:
            test, told = make_test(source)
        indexes.append(test)
        text += "index " + told + "\n"
    return Table(columns, indexes), text


def within(numbers):
    return all(-BOUND <= number <= BOUND for number in numbers)


def is_test_text(text):
    """Whether a text is that of a test."""
    if TEST.fullmatch(text) is None:
        return False
    for kind, worth in re.findall(r" (plus|times|into|over|found) ([^ ]+)", text.partition(" ")[1] + text.partition(" ")[2]):
        if kind == "found":
            pairs = [] if worth == "-" else [[int(one) for one in pair.split(":")] for pair in worth.split(",")]
            keys = [key for key, _ in pairs]
            if keys != sorted(set(keys)) or not within([one for pair in pairs for one in pair]):
                return False
        elif not within([int(worth)]) or kind == "times" and worth == "0" or kind == "into" and int(worth) < 1:
            return False
    last = text.rpartition(" ")[2]
    return last in ("empty", "number") or within([int(last)])


def is_condition_text(text):
    """Whether a text is that of a condition: leaves become X, and so does what stands around them."""
    if "X" in text:
        return False
    pieces = re.split(r"(all\(|any\(|first\(|not\(|case\(|\)|, | \? )", text)
    for index in range(0, len(pieces), 2):
        piece = pieces[index]
        if piece in ["always " + answer for answer in ANSWERS] or is_test_text(piece):
            pieces[index] = "X"
        elif piece:
            return False
    text, before = "".join(pieces), None
    while text != before:
        before = text
        text = re.sub(r"(?:all|any|first)\((?:X(?:, X)*)?\)|not\(X\)|case\((?:X \? X, )*X\)", "X", text)
    return text == "X"


def is_row_text(text):
    """Whether a text is that of a row."""
    if text == "-":
        return True
    if re.fullmatch(rf"{ENTRY}(?:, {ENTRY})*", text) is None:
        return False
    names = [entry.partition("=")[0] for entry in text.split(", ")]
    return names == sorted(set(names))


def is_planner_text(text):
    return re.fullmatch(r"(?:every|free|text)(?: unknown)?(?: folds)?(?: beneath)?(?: early)?", text) is not None


def wrong_line(text):
    """The number of the first line of the text of a table that cannot stand there, or None."""
    names, indexes, lines = [], False, text.split("\n")
    for number, line in enumerate(lines[:-1], 1):
        column = COLUMN.fullmatch(line)
        if column is not None and not indexes and column[1] not in names:
            if within([int(column[2]), int(column[3])]) and int(column[2]) <= int(column[3]):
                names.append(column[1])
                continue
        if line.startswith("index ") and is_test_text(line[6:]) and line[6:].partition(" ")[0] in names:
            indexes = True
            continue
        return number
    return None if lines[-1] == "" else len(lines)


def changed(source, text):
    """The text with a sign or a word lacking, too many, or otherwise."""
    words = [" ", ",", ", ", "(", ")", "?", " ? ", ":", "=", "-", "0", "-0", "00", "9", "X", "A", "\n", "\n\n", "~",
             "n", "all(", "always yes", "empty", "found -", "1" * 60, "index ", "column ", ">"]
    at = source.randrange(len(text) + 1)
    form = source.randrange(4)
    if form == 0:
        return text[:at] + text[at + source.choice((1, 1, 1, 2, 5)):]
    if form == 1:
        return text[:at] + source.choice(words) + text[at:]
    if form == 2:
        return text[:at] + source.choice(words) + text[at + 1:]
    beside = source.randrange(len(text) + 1)
    return text[:at] + text[min(at, beside):max(at, beside)] + text[at:]
