"""What the document promises over the whole program."""

import copy
import importlib
import inspect
import random
import unittest

from madesure.ask.answers import answer_at, answer_number, least, many_answers, shows_least
from madesure.ask.cores import core, shows_core
from madesure.ask.follow import follows, shows_follows
from madesure.ask.general import general, shows_general
from madesure.decide.classes import classes_of, shows_classes
from madesure.decide.search import decide, shows, width_of
from madesure.errors import NoCore, NoPlain, TooMany, TooWide
from madesure.keep.asker import Asker
from madesure.papers.papers import length_of, shows_no, thinned
from madesure.papers.steps import fact_by
from madesure.papers.walking import numbers_in
from madesure.terms.terms import is_sheet
from madesure.words.desk import Desk
from madesure.words.texts import read_sheet, sheet_text
from samples import (ALL_KINDS, BINARY, CHAIN, LEAF, answers_to, chain_on, fits_plainly, near_sheet, plain_holds, random_formula,
                     random_sheet, refusal)

WIDE = 10 ** 40
INTERFACE = {
    "errors": "SureError NoKinds NoKind NoMaker NoTree NoSheet NoNames NoTerm NoAnswer NoStep NoPaper NoSums TooWide NoPlain NoCore TooMany "
              "NoLevel NoDeed NoText NoLine NoFormula LackError NoNumber",
    "kinds.kinds": "is_name is_kinds makers_of kind_by least_size is_finite",
    "trees.trees": "is_tree size_of least_tree is_ahead part_of", "trees.counts": "many_trees tree_at number_of sizes_of",
    "terms.terms": "are_names is_term is_formula is_sheet kind_of", "terms.meaning": "is_answer worth_of holds first_false",
    "papers.steps": "fact_by", "papers.papers": "shows_no length_of thinned", "decide.sums": "decide_sums shows_sums",
    "decide.classes": "classes_of shows_classes", "decide.search": "width_of decide shows", "ask.general": "general shows_general put_in",
    "ask.follow": "follows shows_follows", "ask.cores": "core shows_core",
    "ask.answers": "least shows_least many_answers answer_at answer_number", "keep.asker": "Asker",
    "words.texts": "term_text formula_text sheet_text read_term read_formula read_sheet", "words.desk": "Desk"}
NUMBERS = (("trees.counts", "MARKS", 1), ("decide.search", "WIDTH", 2000), ("ask.answers", "MANY", 5000))


def module_of(name):
    return importlib.import_module("madesure." + name)


def steps_within(paper):
    """All (facts ahead in its paper's cases, steps) of a paper and those in it, as they stand."""
    steps, end = paper
    yield paper
    if end[0] in ("makers", "sizes", "either", "apart"):
        for inner in end[-1]:
            yield from steps_within(inner)


def all_told(sheet, formula):
    """All that is told of a sheet, each with whether it is shown so."""
    rows = [(call.__name__, refusal_or(call, *args, **more), shown) for call, args, more, shown in (
        (decide, (sheet,), {"most": WIDE}, lambda told: shows(sheet, told)),
        (classes_of, (sheet,), {}, lambda told: shows_classes(sheet, told)),
        (general, (sheet,), {}, lambda told: shows_general(sheet, told)),
        (follows, (sheet, formula), {"most": WIDE}, lambda told: shows_follows(sheet, formula, told)),
        (core, (sheet,), {"most": WIDE}, lambda told: shows_core(sheet, told)),
        (least, (sheet,), {"most": 2000}, lambda told: shows_least(sheet, told)))]
    return rows


def refusal_or(call, *args, **more):
    try:
        return call(*args, **more)
    except (NoCore, NoPlain, TooWide) as error:
        return type(error)


class PromiseTest(unittest.TestCase):

    def test_each_told_thing_is_shown(self):
        chance = random.Random(201)
        seen = {}
        for at in range(250):
            sheet = near_sheet(chance, chance.choice(ALL_KINDS[:6] + (None,)), 3, 4)[0] if at % 2 else random_sheet(chance, None, 3, 3)
            formula = random_formula(chance, sheet, 2) or ("sum", (), 0)
            yes = decide(sheet, most=WIDE)[0] == "yes"
            for name, told, shown in all_told(sheet, formula):
                if isinstance(told, type):
                    self.assertIn((name, told), ((("general", NoPlain)), ("core", NoCore), ("least", TooWide)), sheet)
                    self.assertTrue(name != "core" or yes)
                    continue
                self.assertIs(shown(told), True, (name, sheet))
                seen[name, told[0] if isinstance(told[0], str) else "core"] = True
                if told[0] in ("no", "shut") and name not in ("follows",):
                    self.assertFalse(yes, (name, sheet))
            text = sheet_text(sheet)
            self.assertEqual(read_sheet(text), sheet)
        for wanted in (("decide", "yes"), ("decide", "no"), ("classes_of", "open"), ("classes_of", "shut"), ("general", "general"),
                       ("follows", "yes"), ("follows", "no"), ("core", "core"), ("least", "least"),
                       ("least", "no")):
            self.assertIn(wanted, seen)

    def test_never_both(self):
        """Where an answer fits no bent paper shows that none does: each is spoiled at some place, and none is taken."""
        chance = random.Random(202)
        tried = 0
        for _ in range(150):
            sheet, planted = near_sheet(chance, chance.choice(ALL_KINDS[:6]), 3, 5)
            if decide(sheet, most=WIDE)[0] == "no":
                paper = decide(sheet, most=WIDE)[1]
                for at in range(len(sheet[2])):
                    other = (*sheet[:2], sheet[2][:at] + (("sum", (), 0),) + sheet[2][at + 1:])
                    if decide(other, most=WIDE)[0] == "yes":
                        tried += 1
                        self.assertIs(shows_no(other, paper), False, (other, paper))
        self.assertGreater(tried, 20)

    def test_steps_hold_where_their_facts_do(self):
        chance = random.Random(203)
        looked = 0
        for _ in range(200):
            sheet, planted = near_sheet(chance, chance.choice(ALL_KINDS[:6]), 3, 5)
            told = decide(sheet, most=WIDE)
            if told[0] == "no":
                facts = ()
                for step in told[1][0]:
                    facts = facts + (fact_by(sheet, facts, step),)
                for answer in answers_to(sheet, 3, limit=6):
                    held = [plain_holds(sheet, fact, answer) for fact in facts]
                    for step, is_held in zip(told[1][0], held):
                        if step[0] != "given" and all(held[number] for number in numbers_in(step)):
                            looked += 1
                            self.assertTrue(is_held, (sheet, answer, step))
        self.assertGreater(looked, 50)

    def test_papers_are_thin_and_last(self):
        chance = random.Random(204)
        for _ in range(200):
            sheet = near_sheet(chance, chance.choice(ALL_KINDS[:6]), 3, 6)[0]
            told = decide(sheet, most=WIDE)
            if told[0] == "no":
                self.assertEqual(thinned(sheet, told[1]), told[1])
                # It shows the same of each sheet that has these formulas ahead of more.
                more = (*sheet[:2], (sheet[2] + (("sum", (), 0), ("not", ("sum", (), -1))))[:10])
                self.assertIs(shows_no(more, told[1]), True)
                self.assertEqual(length_of(told[1]), sum(len(steps) + 1 for steps, _ in steps_within(told[1])))

    def test_put_and_taken_back_in_whatever_order(self):
        chance = random.Random(205)
        for _ in range(25):
            asker = Asker(chance.choice(ALL_KINDS[:5]), most=WIDE)
            for _ in range(25):
                self.a_deed(chance, asker)
                sheet = asker.sheet()
                self.assertTrue(is_sheet(sheet))
                if chance.random() < 0.3:
                    told = asker.ask()
                    self.assertEqual(told[0], decide(sheet, most=WIDE)[0])
                    self.assertIs(shows(sheet, told), True)
                    formula = random_formula(chance, sheet, 2)
                    if formula is not None:
                        self.assertEqual(asker.follows(formula), follows(sheet, formula, most=WIDE))

    def a_deed(self, chance, asker):
        kinds = [kind for kind, _ in asker.kinds] + ["mark"]
        formula = random_formula(chance, asker.sheet(), 2)
        chance.choice((lambda: refusal(asker.name, chance.choice("xyz"), chance.choice(kinds)), lambda: refusal(asker.formula, formula),
                       lambda: refusal(asker.formula, formula), asker.level, lambda: refusal(asker.leave), lambda: refusal(asker.back),
                       lambda: refusal(asker.all_of, (("level",), ("formula", formula), ("leave",)))))()

    def test_nothing_hangs_on_what_was_told_or_asked_before(self):
        chance = random.Random(206)
        sheets = [near_sheet(chance, chance.choice(ALL_KINDS[:6]), 3, 4)[0] for _ in range(30)]
        formula = ("sum", (), 0)
        first = [copy.deepcopy([told for _, told, _ in all_told(sheet, formula)]) for sheet in sheets]
        kept = copy.deepcopy(sheets)
        for sheet in sheets[::-1]:
            for _, told, _ in all_told(sheet, formula):
                if not isinstance(told, type) and told[0] == "yes" and isinstance(told[1], dict):
                    told[1].clear()
        self.assertEqual([[told for _, told, _ in all_told(sheet, formula)] for sheet in sheets], first)
        self.assertEqual(sheets, kept)

    def test_all_answers_and_the_least(self):
        chance = random.Random(207)
        looked = 0
        for _ in range(120):
            sheet = near_sheet(chance, chance.choice(ALL_KINDS[:6]), 2, 3)[0]
            told = refusal_or(least, sheet)
            if isinstance(told, tuple) and told[0] == "least":
                size = sum(len(repr(tree).replace("(", "").split(",")) - repr(tree).count(",)") for tree in told[1].values())
                try:
                    many = many_answers(sheet, min(size, 40), marks=4)
                except TooMany:
                    continue
                looked += 1
                rows = [answer_at(sheet, size, number, marks=4) for number in range(min(many, 30))]
                self.assertTrue(all(fits_plainly(sheet, row) for row in rows))
                self.assertEqual([answer_number(sheet, size, row, marks=4) for row in rows], list(range(len(rows))))
                self.assertGreater(many, 0, sheet)
                self.assertEqual(many_answers(sheet, size - 1, marks=4) if size else 0, 0)
        self.assertGreater(looked, 30)

    def test_what_was_told_may_be_handed_on(self):
        """However great: trees beyond two hundred tuples, and the papers of great sheets."""
        deep = chain_on(("end",), 1200)
        sheet = (CHAIN, (("x", "chain", None),), (("test", "next", "x"), ("not", ("same", "x", chain_on("x", 3)))))
        self.assertIs(shows(sheet, ("yes", {"x": deep})), True)
        self.assertIs(shows_follows(sheet, ("test", "end", "x"), ("no", {"x": deep})), True)
        self.assertIs(shows_least(sheet, ("least", {"x": deep}, ((), ("below", 0)))), False)
        paper = ((("given", 0),), ("below", 0))
        for _ in range(400):
            paper = ((), ("sizes", "x", 0, (paper, paper[:1] + (("below", 0),))))
        self.assertIs(shows((CHAIN, sheet[1], (("sum", (), 0),)), ("no", paper)), False)


class InterfaceTest(unittest.TestCase):

    def test_all_stands_where_it_is_listed(self):
        for name, words in INTERFACE.items():
            module = module_of(name)
            for word in words.split():
                self.assertEqual(getattr(module, word).__module__, module.__name__, word)
                self.assertTrue(inspect.isfunction(getattr(module, word)) or inspect.isclass(getattr(module, word)))
        for name, word, number in NUMBERS:
            self.assertEqual(getattr(module_of(name), word), number)

    def test_what_keeps_is_apart_from_others(self):
        one, other = Asker(BINARY), Asker(BINARY)
        one.name("x", "tree")
        one.formula(("same", "x", LEAF))
        self.assertEqual((len(other), other.sheet()[1], other.log()), (0, (), ()))
        first, second = Desk(), Desk()
        first.say("kinds kind tree leaf")
        self.assertEqual(len(second), 0)
        self.assertIsNotNone(refusal(second.say, "sheet"))
        self.assertEqual(width_of(one.sheet()), 1)


if __name__ == "__main__":
    unittest.main()
