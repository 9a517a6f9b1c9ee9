"""A desk: commands in text, done to a store."""

from refusedahead.errors import NoCommand, NoText
from refusedahead.notation import show_row, show_table
from refusedahead.readers import is_integer_text, read_condition, read_planner, read_row, read_test
from refusedahead.store import Store

# The commands that stand alone, and those that take something.
ALONE = ("again", "back", "rows", "table")
TAKING = ("add", "ask", "drop", "foresee", "out", "put")


def _index_in(text):
    """The integer from 0 on with a text; raises NoText for all else."""
    if not is_integer_text(text) or int(text) < 0:
        raise NoText(1)
    return int(text)


def _question_in(text):
    """The tuple (planner, condition) with a text; raises NoText for all else."""
    planner, _, condition = text.partition(": ")
    return (read_planner(planner), read_condition(condition))


def _thing_in(word, text):
    """What a command takes, by its text; raises NoText for all else."""
    if word in ("drop", "out"):
        return _index_in(text)
    if word == "put":
        return read_row(text)
    if word == "add":
        return read_test(text)
    return _question_in(text)


def _read(line):
    """The tuple (word, thing) of a command and what it takes; raises NoCommand for all else."""
    if not isinstance(line, str):
        raise NoCommand()
    if line in ALONE:
        return (line, None)
    word, _, rest = line.partition(" ")
    if word not in TAKING:
        raise NoCommand()
    try:
        return (word, _thing_in(word, rest))
    except NoText:
        raise NoCommand()


def _asked_text(told):
    """The text of what a Store tells of a question."""
    word, indexes = told
    if indexes is None:
        return word
    shown = ",".join([str(index) for index in indexes])
    return f"{word} {shown}" if len(indexes) > 0 else f"{word} -"


class Desk:
    """Does commands to a Store of its own."""

    def __init__(self, table):
        self._store = Store(table)

    def store(self):
        """A copy of the Store."""
        return self._store.copied()

    def execute(self, line):
        """What is answered to a line; raises NoCommand for what is no command, then what the Store raises."""
        word, thing = _read(line)
        if word == "rows":
            return "".join([show_row(row) + "\n" for row in self._store.rows()])
        if word == "table":
            return show_table(self._store.table)
        if word in ("ask", "foresee"):
            return self._answered(word, thing)
        self._do(word, thing)
        return str(len(self._store))

    def _answered(self, word, question):
        """What is answered to a question, which has to fit the Table."""
        planner, condition = question
        if not self._store.table.fits(condition):
            raise NoCommand()
        if word == "foresee":
            return self._store.foresee(planner, condition)
        return _asked_text(self._store.ask(planner, condition))

    def _do(self, word, thing):
        """Does a deed, undoes one, or does one anew."""
        if word == "put":
            self._store.put(thing)
        elif word == "out":
            self._store.out(thing)
        elif word == "add":
            self._store.add(thing)
        elif word == "drop":
            self._store.drop(thing)
        elif word == "back":
            self._store.back()
        else:
            self._store.again()
