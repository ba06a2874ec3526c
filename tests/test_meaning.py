import copy
import inspect
import random
import unittest

from madesure.errors import NoAnswer, NoFormula, NoTerm
from madesure.terms import meaning as module
from madesure.terms.meaning import first_false, holds, is_answer, worth_of
from madesure.terms.nested import are_alike
from samples import (BINARY, CHAIN, DAYS, FORMULAS, LEAF, LISTS, MIXED, NAMES, NEVER, SHEET, answers_to, chain_of,
                     check_refusals, check_sheets_refused, plain_holds, plain_worth, random_formula, random_sheet,
                     random_term, refusal, spoiled)

TWO = ("node", LEAF, LEAF)
ANSWER = {"x": ("node", TWO, LEAF), "y": TWO, "z": LEAF, "m": 3, "n": 10 ** 39}
CHAINS = (CHAIN, (("c", "chain", None), ("d", "chain", 40)), ())
BOXES = (MIXED, (("b", "box", None), ("l", "lid", 2), ("m", "mark", None)), ())


class AnswersTest(unittest.TestCase):

    def test_answers(self):
        self.assertIs(is_answer(SHEET, ANSWER), True)
        self.assertIs(is_answer(SHEET, dict(reversed(list(ANSWER.items())))), True)
        self.assertIs(is_answer((BINARY, (), ()), {}), True)
        self.assertIs(is_answer((BINARY, (), FORMULAS[:0]), {"x": LEAF}), False)

    def test_just_the_names(self):
        for name in ANSWER:
            less = {key: tree for key, tree in ANSWER.items() if key != name}
            self.assertIs(is_answer(SHEET, less), False, name)
            self.assertIs(is_answer(SHEET, dict(less, w=ANSWER[name])), False, name)
        for key in ("w", "tree", "leaf", "", 0, 1, True, None, (), ("x",)):
            self.assertIs(is_answer(SHEET, {**ANSWER, key: LEAF}), False, key)

    def test_trees_of_the_kinds(self):
        for name in ANSWER:
            for thing in NEVER + (("leaf", LEAF), "x", "leaf", ("node", LEAF), ("part", "node", 0, LEAF), ["leaf"]):
                self.assertIs(is_answer(SHEET, {**ANSWER, name: thing}), False, (name, thing))
        self.assertIs(is_answer(SHEET, {**ANSWER, "x": 0}), False)
        self.assertIs(is_answer(SHEET, {**ANSWER, "m": LEAF}), False)
        self.assertIs(is_answer(SHEET, {**ANSWER, "x": "z"}), False)
        for other in spoiled(ANSWER["x"], lambda inner: list(inner) if isinstance(inner, tuple) else 5):
            self.assertIs(is_answer(SHEET, {**ANSWER, "x": other}), False, other)

    def test_mosts(self):
        for most in range(6):
            sheet = (BINARY, (("x", "tree", most), ("m", "mark", most)), ())
            for tree, size in ((LEAF, 1), (TWO, 3), (("node", TWO, LEAF), 5)):
                self.assertIs(is_answer(sheet, {"x": tree, "m": 7}), size <= most, (most, size))
        for length in (39, 40, 41, 200, 1000):
            self.assertIs(is_answer(CHAINS, {"c": chain_of(5), "d": chain_of(length)}), length <= 40)
            self.assertIs(is_answer(CHAINS, {"c": chain_of(length), "d": chain_of(1)}), True)
        for name in ("x", "z", "m"):
            bound = {key: most for key, _, most in NAMES}[name]
            self.assertIs(is_answer((BINARY, ((name, "tree", bound),), ()), {name: LEAF}), True)

    def test_of_anything(self):
        for thing in NEVER[:7] + ([], (), tuple(ANSWER.items()), list(ANSWER.items()), "xyzmn", ("x", "y", "z", "m", "n"),
                                  [ANSWER], (ANSWER,), {}, {"x": LEAF}, SHEET):
            self.assertIs(is_answer(SHEET, thing), False, thing)


class WorthTest(unittest.TestCase):

    def test_by_hand(self):
        x, y = ANSWER["x"], ANSWER["y"]
        for term, worth in (("x", x), ("m", 3), ("n", 10 ** 39), (0, 0), (12, 12), (LEAF, LEAF),
                            (("node", "y", "z"), ("node", y, LEAF)), (("node", ("node", "z", "y"), "x"),
                                                                      ("node", ("node", LEAF, y), x)),
                            (("part", "node", 0, "x"), y), (("part", "node", 1, "x"), LEAF),
                            (("part", "node", 0, ("part", "node", 0, "x")), LEAF),
                            (("part", "node", 0, ("node", "x", "y")), x), (("part", "node", 1, "z"), LEAF)):
            self.assertEqual(worth_of(SHEET, term, ANSWER), worth, term)

    def test_parts_of_another_maker(self):
        answer = {"b": ("void", ("tagged", 7)), "l": ("tagged", 4), "m": 2}
        for term, worth in ((("part", "wrap", 0, "b"), ("plain",)), (("part", "wrap", 1, "b"), 0),
                            (("part", "wrap", 2, "b"), ("bare", ("plain",))), (("part", "void", 0, "b"), ("tagged", 7)),
                            (("part", "bare", 0, "b"), ("plain",)), (("part", "tagged", 0, "l"), 4),
                            (("part", "tagged", 0, ("plain",)), 0),
                            (("wrap", "l", ("part", "tagged", 0, ("part", "void", 0, "b")), "b"),
                             ("wrap", ("tagged", 4), 7, ("void", ("tagged", 7))))):
            self.assertEqual(worth_of(BOXES, term, answer), worth, term)

    def test_deep_ones(self):
        term = "c"
        for _ in range(200):
            term = ("next", term)
        self.assertEqual(worth_of(CHAINS, term, {"c": chain_of(3), "d": chain_of(1)}), chain_of(203))
        for length in (300, 100000):
            answer = {"c": chain_of(length), "d": chain_of(1)}
            self.assertTrue(are_alike(worth_of(CHAINS, "c", answer), chain_of(length)))
            part = "c"
            for _ in range(200):
                part = ("part", "next", 0, part)
            self.assertTrue(are_alike(worth_of(CHAINS, part, answer), chain_of(length - 200)))

    def test_random_terms(self):
        chance = random.Random(8)
        seen = 0
        for _ in range(150):
            sheet = random_sheet(chance)
            for answer in answers_to(sheet, 3, limit=5):
                self.assertIs(is_answer(sheet, answer), True)
                term = random_term(chance, sheet, chance.choice(sheet[0])[0], 3)
                if term is not None:
                    seen += 1
                    self.assertEqual(worth_of(sheet, term, answer), plain_worth(sheet, term, answer), (sheet, term))
        self.assertGreater(seen, 150)


class HoldsTest(unittest.TestCase):

    def test_by_hand(self):
        yes = (("same", "x", "x"), ("same", "y", ("node", "z", LEAF)), ("same", "m", 3), ("same", 3, "m"),
               ("test", "node", "x"), ("test", "leaf", "z"), ("test", "leaf", ("part", "node", 1, "x")),
               ("sum", (), 0), ("sum", (), 500), ("sum", ((1, "x"),), 5), ("sum", ((2, "x"), (-3, "z")), 7),
               ("sum", ((-1, "x"),), -5), ("sum", ((1, "m"), (1, 7)), 2), ("sum", ((1, ("node", "x", "x")),), 11))
        no = (("same", "x", "y"), ("same", "m", 4), ("same", "n", "m"), ("test", "leaf", "x"), ("test", "node", "z"),
              ("sum", (), -1), ("sum", ((1, "x"),), 4), ("sum", ((2, "x"), (-3, "z")), 6), ("sum", ((-1, "x"),), -6),
              ("sum", ((1, "m"), (1, 7)), 1), ("sum", ((1, ("node", "x", "x")),), 10))
        for formula in yes + no:
            told = formula in yes
            self.assertIs(holds(SHEET, formula, ANSWER), told, formula)
            self.assertIs(holds(SHEET, ("not", formula), ANSWER), not told, formula)
            self.assertIs(holds(SHEET, ("not", ("not", formula)), ANSWER), told, formula)
        for one in (yes[0], no[0]):
            for other in (yes[4], no[4]):
                self.assertIs(holds(SHEET, ("both", one, other), ANSWER), one in yes and other in yes)
                self.assertIs(holds(SHEET, ("either", one, other), ANSWER), one in yes or other in yes)

    def test_great_and_deep_trees(self):
        for length in (300, 100000):
            answer = {"c": chain_of(length), "d": chain_of(2)}
            self.assertIs(holds(CHAINS, ("same", "c", "c"), answer), True)
            self.assertIs(holds(CHAINS, ("same", "c", ("next", "c")), answer), False)
            self.assertIs(holds(CHAINS, ("same", "c", ("next", ("part", "next", 0, "c"))), answer), True)
        sums = (CHAIN, (("d", "chain", 40),), ())
        for number in (79, 80, 81):
            self.assertIs(holds(sums, ("sum", ((2, "d"),), number), {"d": chain_of(40)}), number >= 80)

    def test_twelve_tuples_within_one_another(self):
        formula = ("same", "x", "y")
        for _ in range(11):
            formula = ("not", formula)
        self.assertIs(holds(SHEET, formula, ANSWER), True)
        self.assertIs(type(refusal(holds, SHEET, ("not", formula), ANSWER)), NoFormula)

    def test_random_formulas(self):
        chance = random.Random(9)
        seen = {True: 0, False: 0}
        for _ in range(300):
            sheet = random_sheet(chance)
            formula = random_formula(chance, sheet, 3)
            if formula is not None:
                for answer in answers_to(sheet, 3, limit=6):
                    wanted = plain_holds(sheet, formula, answer)
                    seen[wanted] += 1
                    self.assertIs(holds(sheet, formula, answer), wanted, (sheet, formula, answer))
        self.assertGreater(min(seen.values()), 100)

    def test_first_false(self):
        yes, no = ("test", "node", "x"), ("test", "leaf", "x")
        for formulas, wanted in (((), None), ((yes,), None), ((no,), 0), ((yes, no), 1), ((no, yes), 0), ((no, no), 0),
                                 ((yes,) * 10, None), ((yes,) * 9 + (no,), 9), ((yes, no, yes, no), 1)):
            self.assertEqual(first_false((BINARY, NAMES, formulas), ANSWER), wanted)
        self.assertIs(type(first_false((BINARY, NAMES, (no,)), ANSWER)), int)
        self.assertEqual(first_false((DAYS, (("d", "day", None),), (("test", "wed", "d"),)), {"d": ("wed",)}), None)

    def test_first_false_of_random_sheets(self):
        chance = random.Random(10)
        seen = []
        for _ in range(200):
            sheet = random_sheet(chance)
            for answer in answers_to(sheet, 3, limit=6):
                wrong = [at for at, formula in enumerate(sheet[2]) if not plain_holds(sheet, formula, answer)]
                seen.append(wrong[0] if wrong else None)
                self.assertEqual(first_false(sheet, answer), seen[-1])
        self.assertTrue({None, 0, 1, 2} <= set(seen))


class RefusalsTest(unittest.TestCase):
    NO_TERM = tuple((thing, NoTerm) for thing in NEVER + ("w", "leaf", (), ("node", "x"), ["leaf"], ("leaf", LEAF)))
    NO_ANSWER = tuple((thing, NoAnswer) for thing in NEVER + ({}, {"x": LEAF}, {**ANSWER, "w": LEAF}, {**ANSWER, "x": 0},
                                                              {**ANSWER, "z": ANSWER["x"] + ANSWER["x"]},
                                                              {**ANSWER, "z": ("node", TWO, TWO)}, {**ANSWER, "m": True}))
    NO_FORMULA = tuple((thing, NoFormula) for thing in NEVER + ("x", 0, LEAF, ("same", "x", "m"), ["same", "x", "x"],
                                                                ("sum", ((1, "y"),), 0)))

    def test_refusals(self):
        check_refusals(self, lambda term, answer: worth_of(SHEET, term, answer), ("x", ANSWER),
                       (self.NO_TERM, self.NO_ANSWER))
        check_refusals(self, lambda formula, answer: holds(SHEET, formula, answer), (FORMULAS[0], ANSWER),
                       (self.NO_FORMULA, self.NO_ANSWER))
        check_refusals(self, lambda answer: first_false(SHEET, answer), (ANSWER,), (self.NO_ANSWER,))
        for thing, _ in self.NO_FORMULA:
            self.assertEqual(refusal(holds, SHEET, thing, ANSWER).number, 0)

    def test_sheets(self):
        check_sheets_refused(self, is_answer, (ANSWER,), (None,), ([],))
        check_sheets_refused(self, worth_of, ("x", ANSWER), (None, ANSWER), (None, None))
        check_sheets_refused(self, holds, (FORMULAS[0], ANSWER), (None, ANSWER), (None, None))
        check_sheets_refused(self, first_false, (ANSWER,), (None,), ([],))

    def test_nothing_is_changed(self):
        answer = copy.deepcopy(ANSWER)
        sheet = (LISTS, (("l", "list", None),), ())
        told = worth_of(SHEET, ("node", "x", "y"), answer)
        self.assertIs(holds(SHEET, FORMULAS[0], answer), True)
        self.assertEqual(first_false(SHEET, answer), 1)
        self.assertIs(is_answer(sheet, answer), False)
        self.assertEqual(answer, ANSWER)
        self.assertEqual(list(answer), list(ANSWER))
        answer["x"] = LEAF
        self.assertEqual(told, ("node", ANSWER["x"], ANSWER["y"]))
        odd = {"x": [LEAF], "y": {}}
        kept = copy.deepcopy(odd)
        self.assertIsNotNone(refusal(worth_of, SHEET, odd, odd))
        self.assertIsNotNone(refusal(holds, SHEET, odd, odd))
        self.assertIsNotNone(refusal(first_false, SHEET, odd))
        self.assertEqual(odd, kept)


class InterfaceTest(unittest.TestCase):

    def test_names_and_arguments(self):
        wanted = {"is_answer": "(sheet, thing)", "worth_of": "(sheet, term, answer)",
                  "holds": "(sheet, formula, answer)", "first_false": "(sheet, answer)"}
        for name, arguments in wanted.items():
            function = getattr(module, name)
            self.assertEqual(function.__module__, "madesure.terms.meaning")
            self.assertEqual(str(inspect.signature(function)), arguments)


if __name__ == "__main__":
    unittest.main()
