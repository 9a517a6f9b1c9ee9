"""Point [50]: words and how they are told by those of the parts."""

import itertools
import random
import unittest

from refusedahead.sevens import (
    all_words, answers_of, is_word, of_all, of_any, of_case, of_first, of_not, plainly, word_of)
from tests.makers import SWAPPED, always, right_asked
from tests.planning import joined
from tests.things import any_things

SEVEN = [("no", False), ("no", True), ("unknown", False), ("unknown", True), ("yes", False), ("yes", True),
         (None, True)]
ANSWERS = {("no", False): ["no"], ("no", True): ["error", "no"], ("unknown", False): ["unknown"],
           ("unknown", True): ["error", "unknown"], ("yes", False): ["yes"], ("yes", True): ["error", "yes"],
           (None, True): ["error"]}


def right_word(conditions):
    """The word that stands for the answers of some conditions of alwayses."""
    return joined({right_asked(condition, {})[0] for condition in conditions})


def right_node(kind, words):
    """The word of a node, by all answers of the parts and all orders."""
    return right_word([(kind, tuple([always(said) for said in order]))
                       for chosen in itertools.product(*[ANSWERS[word] for word in words])
                       for order in itertools.permutations(chosen)])


def right_first(words):
    return right_word([("first", tuple([always(said) for said in chosen]))
                       for chosen in itertools.product(*[ANSWERS[word] for word in words])])


def right_case(pairs, word):
    flat = [one for pair in pairs for one in pair] + [word]
    found = []
    for chosen in itertools.product(*[ANSWERS[one] for one in flat]):
        told = [always(said) for said in chosen]
        found.append(("case", tuple(zip(told[:-1:2], told[1::2])), told[-1]))
    return right_word(found)


class FormTest(unittest.TestCase):

    def test_is_word(self):
        for word in SEVEN:
            self.assertIs(is_word(word), True)
        wrong = any_things() + [
            (None, False), ("yes", 0), ("no", 1), (None, 1), ("yes", None), ("error", True), ("error", False),
            ("maybe", True), ("Yes", True), ("", False), ("yes ", False), ("yes", "no"), ["yes", True], ("yes",),
            ("yes", True, True), (["yes"], True), (("yes",), True), (True, True), (0, False), (["yes", True],),
            ({}, True), ("yes", [True]), (None, None), ({"yes"}, True), "no", True, 0,
        ]
        for thing in wrong:
            self.assertIs(is_word(thing), False, str(thing)[:60])

    def test_all_words(self):
        for _ in range(2):
            found = all_words()
            self.assertEqual(found, SEVEN)
            self.assertEqual({type(word[1]) for word in found}, {bool})
            found.clear()

    def test_answers(self):
        for word, answers in ANSWERS.items():
            for _ in range(2):
                found = answers_of(word)
                self.assertEqual(found, answers)
                found.append("yes")
            for many in range(1, 5):
                for told in itertools.product(answers, repeat=many):
                    right = joined(set(told))
                    found = word_of(list(told))
                    self.assertEqual(found, right)
                    self.assertIs(type(found[1]), bool)
            self.assertEqual(word_of(answers), word)

    def test_told_answers_stay(self):
        told = ["yes", "error", "yes"]
        self.assertEqual(word_of(told), ("yes", True))
        self.assertEqual(told, ["yes", "error", "yes"])
        told.clear()
        told.append("error")
        self.assertEqual(word_of(told), (None, True))

    def test_plainly(self):
        self.assertEqual([plainly(word) for word in SEVEN], [
            ("no", False), ("no", True), ("no", False), ("no", True), ("yes", False), ("yes", True), (None, True)])


class PartsTest(unittest.TestCase):

    def check(self, found, right, told):
        self.assertEqual(found, right, told)
        self.assertIsInstance(found, tuple)
        self.assertIs(type(found[1]), bool)

    def test_all_and_any(self):
        for many in range(5):
            for words in itertools.combinations_with_replacement(SEVEN, many):
                given = list(words)
                rights = [right_node("all", words), right_node("any", words)]
                for _ in range(2):
                    self.check(of_all(given), rights[0], words)
                    self.check(of_any(given), rights[1], words)
                    self.assertEqual(given, list(words))

    def test_any_order(self):
        for words in itertools.product(SEVEN, repeat=3):
            self.check(of_all(list(words)), of_all(sorted(words, key=str)), words)
            self.check(of_any(list(words)), of_any(sorted(words, key=str)), words)

    def test_without_parts(self):
        self.assertEqual([of_all([]), of_any([]), of_first([])],
                         [("yes", False), ("no", False), ("unknown", False)])

    def test_first(self):
        for many in range(5):
            for words in itertools.product(SEVEN, repeat=many):
                self.check(of_first(list(words)), right_first(words), words)

    def test_not(self):
        for word in SEVEN:
            right = joined({SWAPPED[said] for said in ANSWERS[word]})
            self.check(of_not(word), right, word)

    def test_case_of_none_and_one_pair(self):
        for word in SEVEN:
            self.check(of_case([], word), word, word)
        for when, then, other in itertools.product(SEVEN, repeat=3):
            self.check(of_case([(when, then)], other), right_case([(when, then)], other), (when, then, other))

    def test_case_of_up_to_five_pairs(self):
        source = random.Random(81)
        likely = SEVEN + [("no", False), ("no", True), ("unknown", False), ("unknown", True)] * 2
        for _ in range(600):
            pairs = [(source.choice(likely), source.choice(SEVEN)) for _ in range(source.randrange(2, 6))]
            word, told = source.choice(SEVEN), list(pairs)
            right = right_case(pairs, word)
            for _ in range(2):
                self.check(of_case(told, word), right, pairs)
                self.assertEqual(told, pairs)

    def test_told_lists_changed_between(self):
        words, pairs = [("yes", False)], [(("yes", False), ("no", True))]
        found = [of_all(words), of_any(words), of_first(words), of_case(pairs, ("yes", False))]
        words.append((None, True))
        pairs[0] = (("unknown", True), ("no", False))
        self.assertEqual(found, [("yes", False), ("yes", False), ("yes", False), ("no", True)])
        self.assertEqual([of_all(words), of_any(words), of_first(words), of_case(pairs, ("yes", False))],
                         [(None, True), ("yes", True), ("yes", False), ("yes", True)])


if __name__ == "__main__":
    unittest.main()
