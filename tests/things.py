"""Values of all kinds, for what takes any value."""

from refusedahead.spans import Spans

LONG_NUMBER = int("9" * 60)


def deep(thing, levels):
    """A thing within lists, tuples and dicts, levels deep."""
    for level in range(levels):
        thing = ([thing], (thing,), {"a": thing})[level % 3]
    return thing


def nested(kind, thing, levels):
    """A thing within tuples of a kind, levels deep."""
    for _ in range(levels):
        thing = (kind, thing)
    return thing


def odd_things():
    """A list of values, none of which is an integer, a name or None."""
    return [
        True, False, "", " ", "A", "aB", "a1", "a b", "a_b", "a\n", "\n", "~", "ninechars", "-", "0",
        b"a", (), [], {}, set(), {"a"}, [None], (None,), {"a": None}, {1: 2}, {None: 1}, {("a",): "a"},
        ("a",), ("empty",), ("empty", "n", 1), ["empty", "n"], (1, 2), [1, 2], ((1, 2),), [(1, 2)],
        Spans([(1, 2)]), Spans, ValueError, len, object(), ValueError("a"),
        "a" * 4999, [0] * 4999, (0,) * 4999, {number: number for number in range(2499)},
        deep(0, 29), deep("a", 29), nested("not", 0, 29), nested("all", (), 15),
    ]


def any_things():
    """A list of values of all kinds."""
    return odd_things() + [
        None, 0, 1, -1, 7, 10 ** 12, -10 ** 12, 10 ** 12 + 1, -10 ** 12 - 1, LONG_NUMBER, -LONG_NUMBER,
        "a", "z", "yes", "no", "unknown", "error", "eightabc", "empty", "all",
    ]
