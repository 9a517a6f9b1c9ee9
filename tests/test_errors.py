"""Point [20]: the errors."""

import unittest

from refusedahead import errors
from tests.things import any_things

FIELDS = {
    "Wrong": "place", "Errs": "number", "NoPart": "address", "NoColumn": "name", "Twice": "name",
    "NoRow": "index", "Refused": "index", "Ring": "part", "Stopped": "index", "NoText": "line",
}
PLAIN = ("Nothing", "BadDeed", "NoCommand")


class ErrorsTest(unittest.TestCase):

    def test_the_root(self):
        self.assertEqual(errors.AskError.__bases__, (ValueError,))

    def test_direct_subclasses(self):
        for name in list(FIELDS) + list(PLAIN):
            with self.subTest(name):
                self.assertEqual(getattr(errors, name).__bases__, (errors.AskError,))
                self.assertEqual(getattr(errors, name).__module__, "refusedahead.errors")

    def test_no_other_error(self):
        found = [name for name, thing in vars(errors).items() if isinstance(thing, type)]
        self.assertEqual(sorted(found), sorted(list(FIELDS) + list(PLAIN) + ["AskError"]))

    def test_keep_the_very_object(self):
        for name, field in FIELDS.items():
            for thing in any_things():
                with self.subTest(name, thing=str(thing)[:40]):
                    error = getattr(errors, name)(thing)
                    self.assertIs(getattr(error, field), thing)
                    self.assertEqual(vars(error), {field: thing})

    def test_by_keyword(self):
        for name, field in FIELDS.items():
            with self.subTest(name):
                thing = ["a"]
                self.assertIs(getattr(getattr(errors, name)(**{field: thing}), field), thing)

    def test_do_not_copy(self):
        kept = [1]
        error = errors.NoPart(kept)
        kept.append(2)
        self.assertEqual(error.address, [1, 2])

    def test_raised_and_caught(self):
        for name in FIELDS:
            with self.assertRaises(errors.AskError):
                raise getattr(errors, name)(1)
        for name in PLAIN:
            with self.assertRaises(ValueError):
                raise getattr(errors, name)()


if __name__ == "__main__":
    unittest.main()
