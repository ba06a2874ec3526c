import copy
import inspect
import random
import unittest
from itertools import combinations

from madesure.ask import cores as cores_module
from madesure.ask import follow as follow_module
from madesure.ask.cores import core, shows_core
from madesure.ask.follow import follows, shows_follows
from madesure.decide.search import decide, width_of
from madesure.errors import NoCore, NoFormula, TooWide
from madesure.papers.papers import shows_no
from samples import (ALL_KINDS, BINARY, CHAIN, LEAF, NEVER, SHEET, answers_to, chain_of, check_refusals, check_sheets_refused,
                     exactly, fits_plainly, near_sheet, plain_holds, random_formula, random_sheet, refusal, spoiled, spoiled_by_lists,
                     unlike)

WIDE = 10 ** 40
FREE = tuple((name, "tree", None) for name in "xyzu")
NODE = ("node", "y", "z")


def sheet_of(*formulas, names=FREE):
    return (BINARY, names, formulas)


class FollowsTest(unittest.TestCase):

    def told(self, sheet, formula, wanted=None):
        told = follows(sheet, formula, most=WIDE)
        self.assertIs(shows_follows(sheet, formula, told), True, (sheet, formula))
        if told[0] == "no":
            self.assertTrue(fits_plainly(sheet, told[1]))
            self.assertFalse(plain_holds(sheet, formula, told[1]))
        if wanted is not None:
            self.assertEqual(told[0], wanted, (sheet, formula))
        return told

    def test_ordinary(self):
        same = ("same", "x", NODE)
        for formulas, formula, wanted in (
                ((), same, "no"), ((same,), same, "yes"), ((same,), ("same", NODE, "x"), "yes"), ((same,), ("test", "node", "x"), "yes"),
                ((same,), ("test", "leaf", "x"), "no"), ((same,), ("not", ("test", "leaf", "x")), "yes"),
                ((same,), ("same", ("part", "node", 1, "x"), "z"), "yes"), ((same,), unlike("x", "y"), "yes"),
                ((same,), unlike("y", "z"), "no"), ((same, ("same", "x", LEAF)), ("sum", (), -1), "yes"),
                ((), ("same", "x", "x"), "yes"), ((), ("sum", (), -1), "no"), ((("sum", (), -1),), ("not", same), "yes"),
                ((("either", ("test", "leaf", "x"), ("test", "leaf", "y")),), ("not", ("both", ("test", "node", "x"), ("test", "node", "y"))), "yes"),
                ((), ("either", ("test", "leaf", "x"), ("test", "node", "x")), "yes")):
            self.told(sheet_of(*formulas), formula, wanted)
        self.told((BINARY, (), ()), ("sum", (), 0), "yes")
        self.told((BINARY, (("x", "tree", 2),), ()), ("same", "x", LEAF), "yes")
        self.told((BINARY, (("x", "tree", 3),), ()), ("same", "x", LEAF), "no")

    def test_a_sheet_beyond_what_may_be(self):
        sheet = sheet_of(*[("same", "x", NODE)] * 10)
        self.told(sheet, ("test", "node", "x"), "yes")
        self.told(sheet, ("test", "node", "y"), "no")
        formula = ("same", "x", "x")
        for _ in range(10):
            formula = ("not", formula)
        self.told(sheet_of(), ("not", formula), "no")
        self.told(sheet_of(), formula, "yes")

    def test_too_wide(self):
        sheet = (CHAIN, (("x", "chain", 40), ("y", "chain", 25)), (("test", "end", "x"),))
        formula = ("same", "x", "y")
        self.assertEqual(width_of(sheet), 2000)
        self.assertIs(shows_follows(sheet, formula, follows(sheet, formula)), True)
        for wider in (("both", formula, formula), ("test", "end", "x"), ("same", "x", ("part", "next", 0, "y"))):
            with self.assertRaises(TooWide):
                follows(sheet, wider)
            self.assertIs(shows_follows(sheet, wider, follows(sheet, wider, most=4000)), True)
            with self.assertRaises(TooWide):
                follows(sheet, wider, most=3999)
            self.assertIs(shows_follows(sheet, wider, None), False)

    def test_random(self):
        chance = random.Random(81)
        seen = {"yes": 0, "no": 0}
        for _ in range(400):
            sheet = random_sheet(chance, chance.choice(ALL_KINDS + (None,)))
            formula = random_formula(chance, sheet, 3)
            if formula is not None:
                told = self.told(sheet, formula)
                seen[told[0]] += 1
                if told[0] == "yes":
                    for answer in answers_to(sheet, 3, limit=20):
                        fits = all(plain_holds(sheet, row, answer) for row in sheet[2])
                        self.assertTrue(not fits or plain_holds(sheet, formula, answer))
        self.assertGreater(min(seen.values()), 50, seen)

    def test_bent(self):
        sheet = sheet_of(("same", "x", NODE), ("either", ("test", "leaf", "y"), ("test", "leaf", "z")), names=FREE[:3])
        formula = ("not", ("both", ("test", "node", "y"), ("test", "node", "z")))
        told = follows(sheet, formula)
        self.assertEqual(told[0], "yes")
        for other in spoiled_by_lists(told):
            self.assertIs(shows_follows(sheet, formula, other), False, other)
        for odd in NEVER + ("other", 17):
            for other in spoiled(told, lambda inner: odd):
                self.assertIs(shows_follows(sheet, formula, other), False, other)
        for thing in NEVER + ((), told[:1], told + ((),), list(told), told[1], ("no", told[1]), ("yes", {}), ("no", {}), ("no", None),
                              "yes", ("shut", told[1]), ([], told[1])):
            self.assertIs(shows_follows(sheet, formula, thing), False, thing)
        # A paper of the sheet alone is one of the sheet with the not; an answer of it need not be one.
        both = sheet_of(("same", "x", LEAF), ("same", "x", NODE))
        self.assertIs(shows_follows(both, formula, ("yes", decide(both)[1])), True)
        yes = ("no", {"x": ("node", LEAF, LEAF), "y": LEAF, "z": LEAF})
        self.assertIs(shows_follows(sheet, formula, yes), False)
        self.assertIs(shows_follows(sheet, unlike("y", "z"), yes), True)
        self.assertIs(shows_follows(sheet, ("same", "y", "z"), yes), False)

    def test_refusals(self):
        for rest in (("same", "x", "x"),), (None,):
            check_sheets_refused(self, follows, rest)
            check_sheets_refused(self, shows_follows, rest + (None,))
        bad = tuple((thing, NoFormula) for thing in NEVER + (
            "x", LEAF, ("same", "x", 3), ("test", "leaf"), ("sum", ((1, "x"),), 0), ("not", ("not", None)), ["same", "x", "x"],
            ("node", "x", "x"), ("given", 0), ("sum", (), 501)))
        check_refusals(self, follows, (sheet_of(), ("same", "x", "x")), ((), bad))
        check_refusals(self, lambda sheet, formula: shows_follows(sheet, formula, None), (sheet_of(), ("same", "x", "x")), ((), bad))
        for thing, _ in bad:
            self.assertEqual(refusal(follows, sheet_of(), thing).number, 0)
            with self.assertRaises(NoFormula):
                follows(sheet_of(), thing, most=0)


class CoreTest(unittest.TestCase):

    def told(self, sheet, wanted=None):
        told = core(sheet, most=WIDE)
        self.assertIs(shows_core(sheet, told), True, sheet)
        numbers, paper, answers = told
        self.assertEqual(list(numbers), sorted(set(numbers)))
        picked = tuple(sheet[2][number] for number in numbers)
        self.assertIs(shows_no((*sheet[:2], picked), paper), True)
        self.assertEqual(len(answers), len(numbers))
        for at, answer in enumerate(answers):
            self.assertTrue(fits_plainly((*sheet[:2], picked[:at] + picked[at + 1:]), answer))
        if wanted is not None:
            self.assertIn(numbers, wanted)
        return told

    def test_of_one_of_all_of_none(self):
        self.told(sheet_of(("sum", (), -1)), [(0,)])
        self.told(sheet_of(("same", "x", "y"), ("same", "x", ("node", "x", "x")), ("same", "y", "z")), [(1,)])
        self.told((BINARY, (("x", "tree", 0),), (("same", "x", LEAF), ("sum", (), -1))), [()])
        self.assertEqual(core((BINARY, (("x", "tree", 0),), ()))[2], ())
        ring = [("same", one, ("node", other, LEAF)) for one, other in zip("xyzu", "yzux")]
        self.told(sheet_of(*ring), [(0, 1, 2, 3)])
        self.told(sheet_of(*ring, *ring[::-1]), [(0, 1, 2, 3), (0, 1, 2, 4), (0, 1, 3, 5), (1, 2, 3, 7)] + [
            tuple(sorted(row)) for row in combinations(range(8), 4) if {min(at, 7 - at) for at in row} == {0, 1, 2, 3}])

    def test_of_formulas_that_stand_twice(self):
        one, other = ("same", "x", LEAF), ("test", "node", "x")
        self.told(sheet_of(one, one, other, other), [(0, 2), (0, 3), (1, 2), (1, 3)])
        self.told(sheet_of(("same", "x", "y"), ("sum", (), -2), ("sum", (), -1)), [(1,), (2,)])
        self.told(sheet_of(one, ("both", one, other), other), [(1,), (0, 2)])

    def test_by_sizes(self):
        names = tuple((name, "chain", 9) for name in "xyz")
        rows = (("sum", ((1, "x"), (-1, "y")), -3), ("test", "next", "z"), ("sum", ((1, "y"), (-1, "z")), -3),
                ("sum", ((1, "z"), (-1, "x")), 5), ("sum", ((1, "y"),), 5), ("same", "z", chain_of(9)))
        self.told((CHAIN, names, rows), [(0, 2, 3)])
        self.told((CHAIN, names, rows[:3] + rows[4:] + (("sum", ((-1, "x"),), -3),)), [(0, 3, 5)])

    def test_too_wide_ahead_of_no_core(self):
        sheet = (CHAIN, (("x", "chain", 40), ("y", "chain", 40), ("z", "chain", 2)), ())
        for error, formulas, most in ((TooWide, (), 2000), (NoCore, (), 3200), (TooWide, (("sum", (), -1),), 2000)):
            self.assertIs(type(refusal(lambda: core((*sheet[:2], formulas), most=most))), error)
            self.assertIs(shows_core((*sheet[:2], formulas), None), False)
        self.assertIs(shows_core((*sheet[:2], (("sum", (), -1),)), ((0,), ((("given", 0),), ("below", 0)), ({
            "x": ("end",), "y": ("end",), "z": ("end",)},))), True)
        with self.assertRaises(NoCore):
            core((BINARY, (), ()))
        # One that can be has none to show.
        self.assertIs(shows_core(sheet, ((), ((), ("below", 0)), ())), False)

    def test_random(self):
        chance = random.Random(82)
        many = 0
        for _ in range(250):
            sheet, _ = near_sheet(chance, chance.choice(ALL_KINDS[:6] + (None,)), 3, 8)
            if decide(sheet, most=WIDE)[0] == "no":
                many += 1
                self.told(sheet)
            else:
                with self.assertRaises(NoCore):
                    core(sheet, most=WIDE)
        self.assertGreater(many, 40)

    def test_bent(self):
        sheet = sheet_of(("same", "x", NODE), ("same", "y", "u"), ("either", ("same", "y", "x"), ("test", "leaf", "x")))
        told = core(sheet)
        self.assertEqual(told[0], (0, 2))
        self.assertIs(shows_core(sheet, told), True)
        for other in spoiled_by_lists(told):
            self.assertIs(shows_core(sheet, other), False, other)
        for odd in NEVER + ("other", 17):
            for other in spoiled(told, lambda inner: odd):
                self.assertIs(shows_core(sheet, other), False, other)
        numbers, paper, answers = told
        for numbers_here in ((2, 0), (0, 0, 2), (0, 2, 2), (0,), (2,), (), (0, 1), (1, 2), (0, 3), (-1, 2), (False, 2), [0, 2], 0, None):
            self.assertIs(shows_core(sheet, (numbers_here, paper, answers)), False, numbers_here)
        again = (("given", 0), ("given", 2)), ("unlike", 0, 1)
        renumbered = decide((*sheet[:2], (sheet[2][0], sheet[2][0], sheet[2][2])))[1]
        self.assertIs(shows_core(sheet, ((0, 0, 2), renumbered, answers[:1] + answers)), False)
        self.assertIs(shows_core(sheet, (numbers, again, answers)), False)
        # All three can't be, but one may be left out.
        whole = decide(sheet)[1]
        self.assertIs(shows_core(sheet, ((0, 1, 2), whole, answers[:1] + answers[:1] + answers[1:])), False)
        for others in (answers[::-1], answers[:1], answers + answers[:1], (), list(answers), ({}, {}), answers[:1] * 2, None, {}):
            self.assertIs(shows_core(sheet, (numbers, paper, others)), False)
        self.assertIs(shows_core(sheet, (numbers, whole, answers)), False)
        for thing in NEVER + ((), told[:2], told + ((),), list(told), (told,), "core", ("yes", {}), ("no", paper)):
            self.assertIs(shows_core(sheet, thing), False, thing)

    def test_refusals(self):
        check_sheets_refused(self, core, ())
        check_sheets_refused(self, lambda sheet: core(sheet, most=0), ())
        check_sheets_refused(self, shows_core, (None,), (((), ((), ("below", 0)), ()),))

    def test_nothing_is_changed(self):
        sheet = copy.deepcopy((*SHEET[:2], SHEET[2] + (("sum", (), -1),)))
        kept = copy.deepcopy(sheet)
        told = core(sheet, most=WIDE)
        again = copy.deepcopy(told)
        told[2][0].clear()
        self.assertEqual(core(sheet, most=WIDE), again)
        self.assertIs(shows_core(sheet, again), True)
        self.assertEqual(sheet, kept)
        formula = ("test", "node", "x")
        answer = follows(SHEET, formula, most=WIDE)
        again = copy.deepcopy(answer)
        self.assertEqual(answer[0], "yes")
        self.assertEqual(follows(SHEET, formula, most=WIDE), again)


class InterfaceTest(unittest.TestCase):

    def test_names_and_arguments(self):
        for module, rows in ((follow_module, (("follows", "(sheet, formula, *, most=2000)"), ("shows_follows", "(sheet, formula, thing)"))),
                             (cores_module, (("core", "(sheet, *, most=2000)"), ("shows_core", "(sheet, thing)")))):
            for name, arguments in rows:
                function = getattr(module, name)
                self.assertEqual(function.__module__, module.__name__)
                self.assertEqual(str(inspect.signature(function)), arguments)


if __name__ == "__main__":
    unittest.main()
