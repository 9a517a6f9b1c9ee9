"""What texts tell: conditions, rows, planners and tables, each read from just the text that it has."""

from refusedahead.asks import ANSWERS, column_of, is_test
from refusedahead.errors import NoText
from refusedahead.notation import show_column, show_planner, show_row, show_test
from refusedahead.planners import MODES, Planner
from refusedahead.tables import Table
from refusedahead.texts import TESTS
from refusedahead.values import is_column, is_name

DIGITS = "0123456789"
LONGEST = 60

# Of texts deeper than twenty brackets nothing is told; this keeps the calls within one another few.
DEEPEST = 60
KINDS = ("all", "any", "case", "first", "not")


def is_integer_text(text):
    """Whether a text is that of an integer, of at most sixty digits."""
    digits = text[1:] if text[:1] == "-" else text
    if not 1 <= len(digits) <= LONGEST or not all([sign in DIGITS for sign in digits]):
        return False
    return str(int(text)) == text


def _entries_of(text):
    """The tuple of the pairs of a found, or None if the text is not that of pairs."""
    if text == "-":
        return ()
    found = []
    for entry in text.split(","):
        key, _, number = entry.partition(":")
        if not is_integer_text(key) or not is_integer_text(number):
            return None
        found.append((int(key), int(number)))
    return tuple(found)


def _step_of(kind, text):
    """The step of a word and of the text of what it takes, which are perhaps none."""
    if kind == "found":
        return (kind, _entries_of(text))
    return (kind, int(text) if is_integer_text(text) else None)


def test_of(text):
    """The test with a text, or None if it is not that of a test."""
    words = text.split(" ")
    if len(words) == 2:
        found = (words[1], words[0])
    elif len(words) < 3 or not is_integer_text(words[-1]):
        return None
    else:
        steps = [_step_of(kind, worth) for kind, worth in zip(words[1:-2:2], words[2:-2:2])]
        found = ("asks", words[0], tuple(steps), words[-2], int(words[-1]))
    return found if is_test(found) and show_test(found) == text else None


class Scanner:
    """Reads a condition from a text of one line, from a place on; raises NoText where it cannot."""

    def __init__(self, text):
        self.text = text
        self.at = 0

    def passes(self, word):
        """Whether a word stands at the place; it is passed then."""
        behind = self.at + len(word)
        if self.text[self.at:behind] != word:
            return False
        self.at = behind
        return True

    def needs(self, word):
        """Passes a word that has to stand at the place."""
        if not self.passes(word):
            raise NoText(1)

    def some(self, depth):
        """The condition at the place, within so many brackets."""
        for kind in KINDS:
            if self.passes(kind + "("):
                if depth == DEEPEST:
                    raise NoText(1)
                return self.case_of(depth + 1) if kind == "case" else self.list_of(kind, depth + 1)
        return self.leaf()

    def leaf(self):
        """The test or the always at the place."""
        end = len(self.text)
        for sign in (")", ", ", " ? "):
            place = self.text.find(sign, self.at, end)
            end = place if place >= 0 else end
        words = self.text[self.at:end]
        self.at = end
        kind, _, answer = words.partition(" ")
        if kind == "always" and answer in ANSWERS:
            return (kind, answer)
        found = test_of(words)
        if found is None:
            raise NoText(1)
        return found

    def list_of(self, kind, depth):
        """The condition of a kind other than case whose bracket has been passed."""
        below = []
        while not self.passes(")"):
            if len(below) > 0:
                self.needs(", ")
            below.append(self.some(depth))
        if kind != "not":
            return (kind, tuple(below))
        if len(below) != 1:
            raise NoText(1)
        return (kind, below[0])

    def case_of(self, depth):
        """The case whose bracket has been passed."""
        pairs, found = [], self.some(depth)
        while self.passes(" ? "):
            pairs.append((found, self.some(depth)))
            self.needs(", ")
            found = self.some(depth)
        self.needs(")")
        return ("case", tuple(pairs), found)


def _first_line(text):
    """The first line of a text, without its line feed; raises NoText for what is no text."""
    if not isinstance(text, str):
        raise NoText(0)
    return text.partition("\n")[0]


def _check_only_line(text):
    """Raises NoText if a text has a second line."""
    if "\n" in text:
        raise NoText(2)


def read_condition(text):
    """The condition with a text; raises NoText for all else."""
    line = _first_line(text)
    scanner = Scanner(line)
    found = scanner.some(0)
    if scanner.at < len(line):
        raise NoText(1)
    _check_only_line(text)
    return found


def read_test(text):
    """The test with a text; raises NoText for all else."""
    found = read_condition(text)
    if found[0] not in TESTS:
        raise NoText(1)
    return found


def _is_value_text(text):
    """Whether a text is that of a value."""
    return text == "-" or is_name(text) or is_integer_text(text)


def _value_of(text):
    """The value with a text."""
    if text == "-":
        return None
    return text if is_name(text) else int(text)


def _values_in(line):
    """The dict of the columns of a line and their values; raises NoText where there are none."""
    found = {}
    for entry in line.split(", "):
        name, _, worth = entry.partition("=")
        if not is_name(name) or not _is_value_text(worth):
            raise NoText(1)
        found[name] = _value_of(worth)
    return found


def read_row(text):
    """The row with a text; raises NoText for all else."""
    line = _first_line(text)
    found = {} if line == "-" else _values_in(line)
    if show_row(found) != line:
        raise NoText(1)
    _check_only_line(text)
    return found


def read_planner(text):
    """The Planner with a text; raises NoText for all else."""
    line = _first_line(text)
    words = line.split(" ")
    if words[0] not in MODES:
        raise NoText(1)
    found = Planner(words[0], unknown="unknown" in words, folds="folds" in words, beneath="beneath" in words,
                    early="early" in words)
    if show_planner(found) != line:
        raise NoText(1)
    _check_only_line(text)
    return found


def _column_of(line):
    """The column with a line, or None if the line is not that of a column."""
    words = line.split(" ")
    if len(words) < 4 or not is_integer_text(words[2]) or not is_integer_text(words[3]):
        return None
    found = (words[1], int(words[2]), int(words[3]), "empty" in words[4:], "words" in words[4:])
    return found if is_column(found) and show_column(found) == line else None


def _index_of(line):
    """The test of the index with a line, or None if the line is not that of an index."""
    word, _, text = line.partition(" ")
    return test_of(text) if word == "index" else None


def read_table(text):
    """The Table with a text; raises NoText for all else."""
    if not isinstance(text, str):
        raise NoText(0)
    lines, columns, indexes = text.split("\n"), {}, []
    for index, line in enumerate(lines[:-1]):
        column, test = _column_of(line), _index_of(line)
        if column is not None and len(indexes) == 0 and column[0] not in columns:
            columns[column[0]] = column
        elif test is not None and column_of(test) in columns:
            indexes.append(test)
        else:
            raise NoText(index + 1)
    # Behind the last line feed nothing may stand: it would be a line that lacks its own.
    if lines[-1] != "":
        raise NoText(len(lines))
    return Table(list(columns.values()), indexes)
