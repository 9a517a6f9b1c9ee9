"""What is an integer, a name, a value, a column and a row."""

GREATEST = 10 ** 12
LETTERS = "abcdefghijklmnopqrstuvwxyz"
LONGEST = 8


def is_integer(thing):
    """Whether thing is an integer; a truth is none."""
    return isinstance(thing, int) and not isinstance(thing, bool)


def is_number(thing):
    """Whether thing is an integer within the bounds of columns and steps."""
    return is_integer(thing) and -GREATEST <= thing <= GREATEST


def is_name(thing):
    """Whether thing is a string of one to eight small letters."""
    if not isinstance(thing, str) or not 1 <= len(thing) <= LONGEST:
        return False
    return all([letter in LETTERS for letter in thing])


def is_value(thing):
    """Whether thing is None, an integer or a name."""
    return thing is None or is_integer(thing) or is_name(thing)


def is_column(thing):
    """Whether thing is a tuple (name, low, high, empty, words)."""
    if not isinstance(thing, tuple) or len(thing) != 5:
        return False
    name, low, high, empty, words = thing
    if not (is_name(name) and is_number(low) and is_number(high)):
        return False
    return low <= high and isinstance(empty, bool) and isinstance(words, bool)


def is_row(thing):
    """Whether thing is a dict from names to values."""
    if not isinstance(thing, dict):
        return False
    return all([is_name(name) and is_value(worth) for name, worth in thing.items()])


def value_fits(column, thing):
    """Whether a column lets thing be its value."""
    _, low, high, empty, words = column
    if thing is None:
        return empty
    if is_integer(thing):
        return low <= thing <= high
    return words and is_name(thing)
