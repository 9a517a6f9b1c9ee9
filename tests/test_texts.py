"""Point [31]: conditions and their parts."""

import random
import unittest

from refusedahead.asking import answer
from refusedahead.errors import NoPart
from refusedahead.texts import (
    addresses, columns_in, depth, is_condition, is_plain_at, leaves, nodes, part_at, parts, put_at, tests_in, turned)
from tests.makers import ANSWERS, SWAPPED, always, make_condition
from tests.things import any_things, deep, nested

SOME, TENS = ("asks", "n", (), "<>", 0), ("asks", "n", (("over", 10),), ">", 3)
EMPTY, NUMBER = ("empty", "m"), ("number", "n")
YES, NO = always("yes"), always("no")
CASE = ("case", ((SOME, TENS), (("all", (EMPTY, NO)), ("not", YES))), ("first", (NUMBER,)))
WHOLE = ("any", (("not", CASE), ("all", ()), TENS))


def make_many(many, levels=3):
    source = random.Random(31)
    return [make_condition(source, ("n", "m"), levels) for _ in range(many)]


class FormTest(unittest.TestCase):

    def test_right(self):
        right = [SOME, TENS, EMPTY, NUMBER, CASE, WHOLE] + [always(word) for word in ANSWERS] + make_many(200)
        right += [("all", ()), ("any", ()), ("first", ()), ("case", (), YES), ("not", ("not", SOME))]
        right += [("all", (SOME,) * 1000), ("case", ((SOME, YES),) * 500, NO), ("first", (YES,) * 1600)]
        right += [nested("not", SOME, 29), nested("not", YES, 29)]
        for thing in right:
            self.assertIs(is_condition(thing), True, str(thing)[:80])

    def test_deep_lists(self):
        thing = SOME
        for level in range(14):
            thing = (("all", "any", "first")[level % 3], (thing,))
        self.assertIs(is_condition(thing), True)
        thing = 0
        for level in range(14):
            thing = (("all", "any", "first")[level % 3], (thing,))
        self.assertIs(is_condition(thing), False)

    def test_wrong(self):
        wrong = any_things() + [
            ("always",), ("always", "maybe"), ("always", True), ("always", None), ("always", ["yes"]), ["always", "yes"],
            ("always", "yes", "no"), ("always", ("yes",)), ("all",), ("all", [SOME]), ("all", SOME), ("all", None),
            ("all", (SOME,), ()), ("all", (SOME, 1)), ["all", ()], ("any", (SOME, [])), ("any", {}), ("first", ""),
            ("first", ((),)), ("not",), ("not", ()), ("not", (SOME,)), ("not", SOME, SOME), ("not", None),
            ("case", ()), ("case", YES), ("case", (), YES, NO), ("case", [], YES), ("case", ([SOME, YES],), NO),
            ("case", ((SOME,),), NO), ("case", ((SOME, YES, NO),), NO), ("case", ((SOME, 1),), NO),
            ("case", ((1, SOME),), NO), ("case", ((SOME, YES),), None), ("case", SOME, NO), ("case", (SOME, YES), NO),
            ("none", ()), ("", ()), (1, ()), (None, SOME), (("all",), ()), (SOME,), (SOME, TENS),
            ("asks", "n", (), "=", True), ("empty", "N"), ("number", "n", "m"), ("all", (("asks", "n"),)),
            ("all", (SOME,) * 800 + (1,)), nested("not", 0, 29), nested("not", (), 29), deep(SOME, 20),
            ("Always", "yes"), ("all", "ab"), ("all", ("ab",)),
        ]
        for thing in wrong:
            self.assertIs(is_condition(thing), False, str(thing)[:80])


class PartsTest(unittest.TestCase):

    def test_parts(self):
        self.assertEqual(parts(WHOLE), [("not", CASE), ("all", ()), TENS])
        self.assertEqual(parts(("not", CASE)), [CASE])
        self.assertEqual(parts(CASE), [SOME, TENS, ("all", (EMPTY, NO)), ("not", YES), ("first", (NUMBER,))])
        self.assertEqual(parts(("case", (), NO)), [NO])
        self.assertEqual(parts(("first", (NUMBER, NUMBER))), [NUMBER, NUMBER])
        for leaf in (SOME, EMPTY, NUMBER, YES, ("all", ()), ("any", ()), ("first", ())):
            self.assertEqual(parts(leaf), [])

    def test_addresses(self):
        self.assertEqual(addresses(WHOLE), [
            (), (0,), (0, 0), (0, 0, 0), (0, 0, 1), (0, 0, 2), (0, 0, 2, 0), (0, 0, 2, 1), (0, 0, 3), (0, 0, 3, 0),
            (0, 0, 4), (0, 0, 4, 0), (1,), (2,)])
        self.assertEqual(nodes(WHOLE), [(), (0, 0, 2), (1,)])
        self.assertEqual(leaves(WHOLE), [
            (0, 0, 0), (0, 0, 1), (0, 0, 2, 0), (0, 0, 2, 1), (0, 0, 3, 0), (0, 0, 4, 0), (2,)])
        self.assertEqual([addresses(SOME), nodes(SOME), leaves(SOME)], [[()], [], [()]])
        self.assertEqual([addresses(("all", ())), nodes(("all", ())), leaves(("all", ()))], [[()], [()], []])
        self.assertEqual([nodes(("first", ())), leaves(("first", ()))], [[], []])

    def test_more_than_ten_parts(self):
        many = ("all", (SOME,) * 12)
        self.assertEqual(addresses(many), [()] + [(index,) for index in range(12)])

    def test_tests_and_columns(self):
        self.assertEqual(tests_in(WHOLE), [SOME, TENS, EMPTY, NUMBER])
        self.assertEqual(columns_in(WHOLE), ["m", "n"])
        self.assertEqual([tests_in(YES), columns_in(YES)], [[], []])
        self.assertEqual(tests_in(("all", (TENS, SOME, TENS, ("not", SOME)))), [SOME, TENS])
        one, other = ("asks", "n", (("found", ((1, 2),)),), "=", -1), ("asks", "n", (("found", ()),), "=", -2)
        self.assertEqual(tests_in(("any", (one, other, EMPTY, one))), [other, one, EMPTY])

    def test_depth(self):
        self.assertEqual([depth(WHOLE), depth(SOME), depth(YES), depth(("all", ())), depth(CASE)], [4, 0, 0, 0, 2])
        self.assertEqual(depth(("case", (), NO)), 1)

    def test_together(self):
        for condition in make_many(200):
            found = addresses(condition)
            self.assertEqual(found, sorted(set(found)))
            self.assertEqual(depth(condition), max([len(address) for address in found]))
            for address in found:
                part = part_at(condition, address)
                self.assertEqual(address in nodes(condition), part[0] in ("all", "any"))
                leaf = part[0] in ("always", "asks", "empty", "number")
                self.assertEqual(address in leaves(condition), leaf)
                for index, below in enumerate(parts(part)):
                    self.assertEqual(part_at(condition, address + (index,)), below)
                self.assertNotIn(address + (len(parts(part)),), found)
            self.assertEqual(len(found), 1 + sum([len(parts(part_at(condition, one))) for one in found]))
            tests = {part_at(condition, one) for one in leaves(condition)} - {always(word) for word in ANSWERS}
            self.assertEqual(tests_in(condition), sorted(tests))
            self.assertEqual(columns_in(condition), sorted({test[1] for test in tests}))

    def test_what_is_returned_is_new(self):
        for function in (parts, addresses, nodes, leaves, tests_in, columns_in):
            first = function(WHOLE)
            right = list(first)
            first.reverse()
            first.append(1)
            self.assertEqual(function(WHOLE), right)


class PlacesTest(unittest.TestCase):

    def no_addresses(self):
        return [thing for thing in any_things() if thing != ()] + [
            (3,), (-1,), (0, 1), (0, -1), (1, 0), (2, 0), (0, 0, 5), (0, 0, 2, 2), (0, 0, 0, 0), (True,), (False,),
            (0, False), (0, 0, True), [0], [0, 0], (None,), ("a",), ((0,),), "", 0, None, (0,) * 4000, (10 ** 50,)]

    def test_no_part(self):
        kept = [WHOLE, CASE, SOME]
        for address in self.no_addresses():
            for call in (part_at, is_plain_at, lambda whole, place: put_at(whole, place, SOME)):
                with self.assertRaises(NoPart, msg=str(address)[:60]) as caught:
                    call(WHOLE, address)
                self.assertIs(caught.exception.address, address)
        self.assertEqual(kept, [WHOLE, CASE, SOME])

    def test_no_part_of_a_leaf(self):
        for address in ((0,), [()], None, 0):
            with self.assertRaises(NoPart) as caught:
                part_at(SOME, address)
            self.assertIs(caught.exception.address, address)

    def test_part_at(self):
        self.assertEqual(part_at(WHOLE, ()), WHOLE)
        self.assertEqual(part_at(WHOLE, (0, 0, 4, 0)), NUMBER)
        self.assertEqual(part_at(CASE, (3,)), ("not", YES))

    def test_put_at(self):
        self.assertEqual(put_at(WHOLE, (), NO), NO)
        self.assertEqual(put_at(CASE, (0,), NO)[1][0], (NO, TENS))
        self.assertEqual(put_at(CASE, (3,), NO)[1][1], (("all", (EMPTY, NO)), NO))
        self.assertEqual(put_at(CASE, (4,), NO)[2], NO)
        self.assertEqual(put_at(("not", SOME), (0,), CASE), ("not", CASE))
        self.assertEqual(put_at(("case", (), SOME), (0,), NO), ("case", (), NO))

    def test_put_everywhere(self):
        other = ("any", (EMPTY, ("always", "error")))
        for condition in make_many(100):
            for address in addresses(condition):
                found = put_at(condition, address, other)
                self.assertIs(is_condition(found), True)
                self.assertEqual(part_at(found, address), other)
                self.assertEqual(put_at(found, address, part_at(condition, address)), condition)

    def test_is_plain_at(self):
        plain = [(), (0,), (1,), (2,), (0, 0, 0), (0, 0, 2), (0, 0, 2, 0), (0, 0, 2, 1)]
        for address in addresses(WHOLE):
            self.assertIs(is_plain_at(WHOLE, address), address in plain, address)

    def test_is_plain_at_in_cases_and_firsts(self):
        whole = ("all", (("case", ((YES, CASE),), CASE), ("first", (SOME, CASE, ("any", (NO,))))))
        right = {
            (0,): True, (0, 0): True, (0, 1): True, (0, 1, 0): True, (0, 1, 1): True, (0, 1, 3): True,
            (0, 1, 3, 0): False, (0, 1, 4): True, (0, 1, 4, 0): False, (0, 2): True, (0, 2, 4): True,
            (1,): True, (1, 0): False, (1, 1): False, (1, 1, 0): True, (1, 1, 1): False, (1, 1, 2, 1): True,
            (1, 1, 3): False, (1, 1, 4): False, (1, 2): False, (1, 2, 0): False,
        }
        for address, plain in right.items():
            self.assertIs(is_plain_at(whole, address), plain, address)


    def test_is_plain_at_in_cases_of_any_length(self):
        for many in range(5):
            whole = ("not", ("case", ((("all", ()), NO),) * many, ("first", (NO,))))
            right = [index for index in range(2 * many + 1) if index % 2 == 0 and index != 2 * many]
            found = [index for index in range(2 * many + 1) if is_plain_at(whole, (0, index))]
            self.assertEqual(found, right)


class TurnedTest(unittest.TestCase):

    def test_by_hand(self):
        self.assertEqual(turned(TENS), ("not", TENS))
        self.assertEqual([turned(EMPTY), turned(NUMBER)], [("not", EMPTY), ("not", NUMBER)])
        self.assertEqual([turned(always(word)) for word in ANSWERS], [
            always("error"), always("yes"), always("unknown"), always("no")])
        self.assertEqual(turned(("not", TENS)), TENS)
        self.assertEqual(turned(("not", ("all", (TENS,)))), ("all", (TENS,)))
        self.assertEqual(turned(("all", (TENS, YES))), ("any", (("not", TENS), NO)))
        self.assertEqual(turned(("any", (("any", ()), ("all", ())))), ("all", (("all", ()), ("any", ()))))
        self.assertEqual(turned(("first", (TENS, NO))), ("first", (("not", TENS), YES)))
        self.assertEqual(turned(("first", ())), ("first", ()))
        self.assertEqual(turned(("case", ((TENS, YES), (("all", ()), SOME)), NO)), (
            "case", ((TENS, NO), (("all", ()), ("not", SOME))), YES))

    def test_answers(self):
        values = (None, 0, 1, 2, -3, 7, "ten")
        for condition in make_many(300):
            once = turned(condition)
            twice = turned(once)
            self.assertIs(is_condition(once) and is_condition(twice), True)
            for row in [{"n": one, "m": other} for one in values for other in values]:
                said = answer(condition, row)
                self.assertEqual([answer(once, row), answer(twice, row)], [SWAPPED[said], said])


if __name__ == "__main__":
    unittest.main()
