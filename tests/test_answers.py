import copy
import inspect
import random
import unittest
from itertools import product

from madesure.ask import answers as module
from madesure.ask.answers import MANY, answer_at, answer_number, least, many_answers, shows_least
from madesure.decide.search import decide, width_of
from madesure.errors import NoAnswer, NoNumber, TooMany, TooWide
from madesure.papers.papers import shows_no
from madesure.trees.counts import MARKS
from samples import (ALL_KINDS, BINARY, CHAIN, DAYS, GREAT, LEAF, LISTS, NEVER, SHEET, chain_of, chain_on, check_refusals,
                     check_sheets_refused, doubled, exactly, fits_plainly, near_sheet, plain_holds, plain_least, plain_size,
                     random_sheet, refusal, spoiled, spoiled_by_lists, trees_in_order, trees_of_size, unlike)

WIDE = 10 ** 40
FREE = tuple((name, "tree", None) for name in "xyzuvw")
NODE = ("node", "y", "z")


def sheet_of(*formulas, names=FREE[:3]):
    return (BINARY, names, formulas)


def size_of(answer):
    return sum(plain_size(tree) for tree in answer.values())


def within(sheet, n):
    """The sheet within n, which need be none."""
    leasts = [plain_least(sheet[0], kind) for _, kind, _ in sheet[1]]
    names = []
    for (name, kind, most), own in zip(sheet[1], leasts):
        room = n - sum(leasts) + own
        names.append((name, kind, room if most is None else min(most, room)))
    return (sheet[0], tuple(names), sheet[2] + (("sum", tuple((1, name) for name, _, _ in names), n),))


def all_plainly(sheet, n, marks):
    """All answers to a size by the document's words."""
    rows = []
    for total in range(n + 1):
        own = [[tree for size in range(total + 1) if most is None or size <= most for tree in trees_of_size(sheet[0], kind, size, marks)]
               for _, kind, most in sheet[1]]
        for trees in product(*own):
            answer = {name: tree for (name, _, _), tree in zip(sheet[1], trees)}
            if size_of(answer) == total and all(plain_holds(sheet, formula, answer) for formula in sheet[2]):
                rows.append(answer)
    return rows


class LeastTest(unittest.TestCase):

    def told(self, sheet, size=None, most=WIDE):
        told = least(sheet, most=most)
        self.assertIs(shows_least(sheet, told), True, sheet)
        if told[0] == "least":
            self.assertTrue(fits_plainly(sheet, told[1]))
            if size is not None:
                self.assertEqual(size_of(told[1]), size)
            narrow = within(sheet, size_of(told[1]) - 1)
            if len(narrow[2]) <= 10:
                self.assertIs(shows_no(narrow, told[2]), True)
        else:
            self.assertEqual((told[0], size), ("no", None))
            self.assertIs(shows_no(sheet, told[1]), True)
        return told

    def test_ordinary(self):
        self.told(sheet_of(), 3)
        self.told(sheet_of(("same", "x", NODE)), 5)
        self.told(sheet_of(("same", "x", NODE), unlike("y", "z")), 9)
        self.told(sheet_of(unlike("x", "y"), unlike("y", "z"), unlike("x", "z")), 9)
        self.told(sheet_of(("either", ("same", "x", doubled("y", 3)), ("same", "x", doubled("z", 2)))), 9)
        self.told(sheet_of(("either", ("same", "x", doubled("y", 1)), ("same", "x", doubled("z", 2)))), 5)
        self.told((LISTS, (("l", "list", None), ("i", "item", None)), (("test", "cons", "l"), unlike("i", ("part", "cons", 0, "l")))), 6)
        self.told((CHAIN, (("x", "chain", 20), ("y", "chain", 20)), exactly(1, (3, "x"), (-7, "y"))), 7)
        self.told((DAYS, tuple((name, "day", None) for name in "xyz"), (unlike("x", "y"),)), 3)

    def test_no_names_and_none(self):
        self.assertEqual(self.told((BINARY, (), ()), 0)[1], {})
        self.told((BINARY, (), (("same", 3, 3),)), 0)
        self.told((BINARY, (), (("sum", (), -1),)))
        self.told(sheet_of(("same", "x", ("node", "x", "y"))))
        self.told((BINARY, (("x", "tree", 0),), ()))

    def test_ten_formulas(self):
        sheet = sheet_of(*[("same", "x", NODE)] * 10)
        told = self.told(sheet, 5)
        self.assertIs(shows_least(sheet, told), True)
        # The paper goes by the one formula more, and by the mosts.
        self.assertIs(shows_no(sheet, told[2]), False)

    def test_size_forty_and_beyond(self):
        for size, wanted in ((39, type(None)), (40, type(None)), (41, TooWide)):
            sheet = (CHAIN, (("x", "chain", 40), ("m", "mark", None)), exactly(size - 1, (1, "x")))
            self.assertIs(type(refusal(lambda: least(sheet, most=WIDE))), wanted, size)
            if wanted is not TooWide:
                self.told(sheet, size)
        self.assertIs(type(refusal(lambda: least((GREAT, (("x", "a", None),), ()), most=WIDE))), TooWide)
        self.told((GREAT, (("x", "c", None),), ()), 40)
        self.assertIs(type(refusal(lambda: least((GREAT, (("x", "c", None), ("m", "mark", None)), ()), most=WIDE))), TooWide)
        # None is told however great it would be.
        self.told((GREAT, (("x", "a", None),), (unlike("x", "x"),)))

    def test_too_wide(self):
        sheet = (CHAIN, (("x", "chain", None), ("y", "chain", None)), (("same", "x", chain_of(6)),))
        self.told(sheet, 7)
        # Within 6 the mosts are 5 and 5.
        self.assertEqual(width_of(within(sheet, 6)), 25)
        for most, error in ((25, type(None)), (24, TooWide), (1, TooWide), (0, TooWide)):
            self.assertIs(type(refusal(lambda: least(sheet, most=most))), error, most)
        wide = (CHAIN, (("x", "chain", 40), ("y", "chain", 40), ("z", "chain", 2)), ())
        self.assertIs(type(refusal(least, wide)), TooWide)
        self.told(wide, 3)
        # By the width of the sheet, though none fits; and none fits, whatever is within.
        self.assertIs(type(refusal(least, (*wide[:2], (("sum", (), -1),)))), TooWide)
        self.assertEqual(least((CHAIN, wide[1][:2], (("sum", (), -1),)))[0], "no")
        self.assertIs(shows_least(wide, None), False)

    def test_random(self):
        chance = random.Random(83)
        seen = {"no": 0, "least": 0}
        for _ in range(250):
            sheet, _ = near_sheet(chance, chance.choice(ALL_KINDS[:6]), 3, 4)
            told = decide(sheet, most=WIDE)
            if told[0] == "no" or size_of(told[1]) < 16:
                found = self.told(sheet)
                seen[found[0]] += 1
                if found[0] == "least":
                    self.assertLessEqual(size_of(found[1]), size_of(told[1]))
                    size = size_of(found[1])
                    if size <= 8:
                        self.assertEqual(all_plainly(sheet, size - 1, 3) if size else [], [])
        self.assertGreater(min(seen.values()), 15, seen)

    def test_bent(self):
        sheet = sheet_of(("same", "x", NODE), unlike("y", LEAF), names=(("x", "tree", None), ("y", "tree", 9), ("z", "tree", None)))
        told = least(sheet)
        self.assertEqual(told[1], {"x": ("node", ("node", LEAF, LEAF), LEAF), "y": ("node", LEAF, LEAF), "z": LEAF})
        word, answer, paper = told
        for other in spoiled_by_lists(told):
            self.assertIs(shows_least(sheet, other), False, other)
        for odd in NEVER + ("other",):
            for other in spoiled(told, lambda inner: odd):
                self.assertIs(shows_least(sheet, other), repr(other) == repr(told), other)
            self.assertIs(shows_least(sheet, (word, {**answer, "z": odd}, paper)), False, odd)
        greater = {**answer, "z": ("node", LEAF, LEAF), "x": ("node", answer["y"], ("node", LEAF, LEAF))}
        self.assertTrue(fits_plainly(sheet, greater))
        self.assertIs(shows_least(sheet, (word, greater, paper)), False)
        for thing in NEVER + ((), told[:2], told + ((),), list(told), ("no", paper), ("least", paper), ("least", answer), ("yes", answer),
                              ("no", answer, paper), ([], answer, paper), "least"):
            self.assertIs(shows_least(sheet, thing), False, thing)
        no = sheet_of(("same", "x", ("node", "x", "y")))
        told = least(no)
        self.assertIs(shows_least(no, told), True)
        self.assertIs(shows_least(no, ("least", {}, told[1])), False)
        self.assertIs(shows_least(no, ("no", told[1], told[1])), False)
        # One of more than forty is least all the same.
        great = (GREAT, (("x", "a", None),), ())
        tree = decide(great)[1]
        self.assertIs(shows_least(great, ("least", tree, ((("kind", "x"), ("within", "x"), ("added", ((0, 1), (1, 1)), 0)), ("below", 2)))), True)

    def test_refusals(self):
        check_sheets_refused(self, least, ())
        check_sheets_refused(self, lambda sheet: least(sheet, most=0), ())
        check_sheets_refused(self, shows_least, (None,), (("least", {}, ((), ("below", 0))),))

    def test_nothing_is_changed(self):
        sheet = copy.deepcopy(SHEET)
        told = least(sheet, most=WIDE)
        again = copy.deepcopy(told)
        told[1].clear()
        self.assertEqual(least(sheet, most=WIDE), again)
        self.assertEqual(sheet, SHEET)


class AllTest(unittest.TestCase):

    def check(self, sheet, n, marks=1):
        wanted = all_plainly(sheet, n, marks)
        self.assertEqual(many_answers(sheet, n, marks=marks), len(wanted), (sheet, n, marks))
        for number, answer in enumerate(wanted):
            self.assertEqual(answer_at(sheet, n, number, marks=marks), answer, (sheet, n, marks, number))
            self.assertEqual(answer_number(sheet, n, answer, marks=marks), number)
        for number in (-1, len(wanted), len(wanted) + 1, 10 ** 39, -10 ** 39, True, None, "0", (0,), [0]):
            error = refusal(lambda: answer_at(sheet, n, number, marks=marks))
            self.assertIs(type(error), NoNumber, number)
            self.assertIs(error.number, number)
        return wanted

    def test_ordinary(self):
        self.check(sheet_of(names=FREE[:1]), 9)
        self.check(sheet_of(names=FREE[:2]), 8)
        self.check(sheet_of(("same", "x", NODE)), 11)
        self.check(sheet_of(unlike("x", "y"), ("test", "leaf", "z")), 9)
        self.check((LISTS, (("l", "list", 6), ("i", "item", None)), (unlike("i", ("part", "cons", 0, "l")),)), 8, 2)
        self.check((DAYS, tuple((name, "day", None) for name in "xyz"), (unlike("x", "y"),)), 3)
        self.check((CHAIN, (("x", "chain", 4), ("m", "mark", None), ("y", "chain", None)), (("not", ("same", "m", 1)),)), 7, 3)

    def test_edges(self):
        self.assertEqual(self.check((BINARY, (), ()), 0), [{}])
        self.assertEqual(self.check((BINARY, (), ()), 40), [{}])
        self.assertEqual(self.check((BINARY, (), (("sum", (), -1),)), 40), [])
        self.assertEqual(self.check(sheet_of(), 0), [])
        self.assertEqual(self.check(sheet_of(), 2), [])
        self.assertEqual(self.check(sheet_of(), 3), [{"x": LEAF, "y": LEAF, "z": LEAF}])
        self.assertEqual(self.check((BINARY, (("x", "tree", 0),), ()), 40), [])
        self.assertEqual(self.check((BINARY, (("m", "mark", None),), ()), 40, 0), [])
        self.assertEqual(len(self.check((BINARY, (("m", "mark", None),), ()), 40, 30)), 30)
        self.assertEqual(self.check((BINARY, (("m", "mark", 0),), ()), 40, 30), [])
        self.assertEqual(many_answers((CHAIN, (("x", "chain", None),), ()), 40), 40)
        self.assertEqual(answer_at((CHAIN, (("x", "chain", 40),), ()), 40, 39), {"x": chain_of(40)})
        self.assertEqual(many_answers((GREAT, (("x", "a", None),), ()), 40), 0)
        self.assertEqual(MARKS, 1)
        self.assertEqual(many_answers((BINARY, (("m", "mark", None), ("n", "mark", None)), ()), 2), 1)

    def test_as_many_as_may_be_looked_at(self):
        self.assertEqual(MANY, 5000)
        marks = (("m", "mark", None),)
        for most, wanted in ((5000, type(None)), (5001, TooMany), (10 ** 6, TooMany)):
            sheet = (BINARY, marks, (("same", "m", 4999),))
            for call in (lambda: many_answers(sheet, 1, marks=most), lambda: answer_at(sheet, 1, 0, marks=most),
                         lambda: answer_number(sheet, 1, {"m": 4999}, marks=most)):
                self.assertIs(type(refusal(call)), wanted, most)
            self.assertIs(type(refusal(lambda: many_answers(sheet, 0, marks=most))), type(None))
        self.assertEqual(answer_at(sheet, 1, 0, marks=5000), {"m": 4999})
        # Formulas are not looked at, mosts and sizes together are.
        none = (BINARY, marks, (("sum", (), -1),))
        self.assertIs(type(refusal(lambda: many_answers(none, 1, marks=5001))), TooMany)
        self.assertEqual(many_answers((BINARY, (("m", "mark", 0),), ()), 40, marks=5001), 0)
        six = (BINARY, FREE, ())
        self.assertEqual(many_answers(six, 14), 1 + 6 + 27 + 110 + 429)
        self.assertIs(type(refusal(lambda: many_answers(six, 40))), TooMany)
        self.assertIs(type(refusal(lambda: many_answers((*six[:2], (("sum", (), -1),)), 40))), TooMany)
        # Five marks of each of five: 3125 dicts, and of six of 4: 4096.
        for many, below in ((5, 5), (6, 4)):
            names = tuple((name, "mark", 1) for name in "xyzuvw"[:many])
            self.assertEqual(many_answers((BINARY, names, ()), many, marks=below), below ** many)
        self.assertIs(type(refusal(lambda: many_answers((BINARY, names, ()), 6, marks=5))), TooMany)

    def test_random(self):
        chance = random.Random(84)
        for _ in range(150):
            sheet = random_sheet(chance, chance.choice(ALL_KINDS[:6]), 2, 3)
            self.check(sheet, chance.choice((0, 1, 2, 3, 4, 5)), chance.choice((0, 1, 2)))

    def test_no_answers_among_them(self):
        sheet = (LISTS, (("l", "list", None), ("i", "item", 5)), (unlike("l", ("nil",)),))
        good = {"l": ("cons", ("count", 1), ("nil",)), "i": ("count", 0)}
        self.assertEqual(answer_at(sheet, 6, answer_number(sheet, 6, good, marks=2), marks=2), good)
        for bad in NEVER + ({}, {"l": good["l"]}, {**good, "x": 0}, {**good, "i": ("count", 2)}, {**good, "i": ("sub", ("nil",), 0)},
                            {**good, "l": ("nil",)}, {**good, "i": ("pair", ("count", 0), ("count", 0))},
                            {**good, "l": ["cons", ("count", 1), ("nil",)]}, tuple(good), list(good), {"l": None, "i": None}, {**good, "i": True},
                            {**good, "l": ("cons", ("count", True), ("nil",))}):
            self.assertIs(type(refusal(lambda: answer_number(sheet, 6, bad, marks=2))), NoAnswer, bad)
        self.assertIs(type(refusal(lambda: answer_number(sheet, 5, good, marks=2))), NoAnswer)
        self.assertIs(type(refusal(lambda: answer_number(sheet, 6, good, marks=1))), NoAnswer)
        self.assertIs(type(refusal(lambda: answer_number(sheet, 6, good))), NoAnswer)

    def test_refusals(self):
        sheet = sheet_of(("same", "x", NODE))
        odd = tuple((thing, NoNumber) for thing in (-1, 41, True, False, None, "5", (5,), [], 10 ** 39, -10 ** 39))
        marks = tuple((thing, NoNumber) for thing in (-1, 10 ** 6 + 1, True, None, "5", (5,), [], -10 ** 39))
        numbers = tuple((thing, NoNumber) for thing in (-1, True, None, "5", (5,), [], 10 ** 39, -10 ** 39, 99))
        answers = tuple((thing, NoAnswer) for thing in NEVER + ({"x": LEAF, "y": LEAF, "z": LEAF},))
        good = answer_at(sheet, 5, 0)
        check_refusals(self, lambda sheet, n, marks: many_answers(sheet, n, marks=marks), (sheet, 9, 2), ((), odd, marks))
        check_refusals(self, lambda sheet, n, number, marks: answer_at(sheet, n, number, marks=marks), (sheet, 9, 1, 2), ((), odd, numbers, marks))
        check_refusals(self, lambda sheet, n, answer, marks: answer_number(sheet, n, answer, marks=marks), (sheet, 9, good, 2),
                       ((), odd, answers, marks))
        check_sheets_refused(self, many_answers, (5,), (None,))
        check_sheets_refused(self, answer_at, (5, 0), (None, None), (41, -1))
        check_sheets_refused(self, answer_number, (5, good), (None, None), (41, {}))
        self.assertIsNone(refusal(lambda: many_answers(sheet, 5, marks=10 ** 6)))

    def test_a_number_ahead_of_marks(self):
        days = (DAYS, (("x", "day", None),), ())
        for number in (0, 3):
            error = refusal(lambda: answer_at(days, 1, number, marks=-1))
            self.assertEqual((type(error), error.number), (NoNumber, -1))
        error = refusal(lambda: answer_at(days, 1, 4, marks=-1))
        self.assertEqual((type(error), error.number), (NoNumber, 4))
        marks = (BINARY, (("m", "mark", None),), ())
        error = refusal(lambda: answer_at(marks, 1, 10 ** 5, marks=None))
        self.assertEqual((type(error), error.number), (NoNumber, None))
        self.assertIs(type(refusal(lambda: answer_number(marks, 1, {"m": 10 ** 6}, marks=-1))), NoAnswer)
        # What is no number, or no answer, at all goes ahead of too many dicts; what is not there is told by these.
        for call, wanted in ((lambda: answer_at(marks, 1, -1, marks=10 ** 6), NoNumber), (lambda: answer_at(marks, 1, 10 ** 9, marks=10 ** 6), TooMany),
                             (lambda: answer_number(marks, 1, {"m": -1}, marks=10 ** 6), NoAnswer),
                             (lambda: answer_number(marks, 1, {"m": 10 ** 7}, marks=10 ** 6), TooMany)):
            self.assertIs(type(refusal(call)), wanted)
        self.assertIs(type(refusal(lambda: answer_number(marks, 1, {"m": 10 ** 6 - 1}, marks=-1))), NoNumber)

    def test_nothing_is_changed(self):
        sheet = sheet_of(unlike("x", "y"))
        told = answer_at(sheet, 9, 3)
        again = copy.deepcopy(told)
        told.clear()
        self.assertEqual(answer_at(sheet, 9, 3), again)
        kept = copy.deepcopy(again)
        answer_number(sheet, 9, again)
        self.assertEqual(again, kept)


class InterfaceTest(unittest.TestCase):

    def test_names_and_arguments(self):
        for name, arguments in (("least", "(sheet, *, most=2000)"), ("shows_least", "(sheet, thing)"),
                                ("many_answers", "(sheet, n, *, marks=1)"), ("answer_at", "(sheet, n, number, *, marks=1)"),
                                ("answer_number", "(sheet, n, answer, *, marks=1)")):
            function = getattr(module, name)
            self.assertEqual(function.__module__, "madesure.ask.answers")
            self.assertEqual(str(inspect.signature(function)), arguments)


if __name__ == "__main__":
    unittest.main()
