import copy
import inspect
import random
import unittest

from madesure.errors import NoStep
from madesure.papers import steps as module
from madesure.papers.steps import fact_by
from madesure.terms.nested import are_alike
from madesure.trees.trees import least_tree
from samples import (BINARY, CHAIN, GREAT, LEAF, LISTS, MIXED, NEVER, SHEET, answers_to, chain_of, check_sheets_refused,
                     plain_holds, random_formula, random_sheet, random_term, refusal, spoiled, spoiled_by_lists)

NODE = ("node", "y", "z")
# Facts of the sample sheet, of all kinds of them, and behind them the steps that go by them.
FACTS = (
    ("same", "x", NODE), ("same", "y", "x"), ("test", "node", "x"), ("test", "leaf", "y"),          # 0 to 3
    ("not", ("same", "x", "z")), ("not", ("not", ("test", "leaf", "z"))), ("both", ("same", "m", 3), ("sum", (), -1)),
    ("not", ("both", ("same", "x", "y"), ("test", "leaf", "z"))),                                   # 7
    ("not", ("either", ("same", "x", "y"), ("test", "leaf", "z"))),
    ("sum", ((12, "y"), (-8, ("node", "x", "z")), (4, "n")), 1000),                                 # 9
    ("sum", ((-6, "x"), (3, "y")), -5), ("not", ("sum", ((2, "z"), (-3, "y"), (1, "m")), -7)),
    ("same", ("node", "x", "y"), ("node", LEAF, ("part", "node", 0, "z"))), ("same", LEAF, NODE),   # 12, 13
    ("sum", ((1, "y"),), 6), ("sum", ((-1, "y"),), -6), ("sum", ((1, "m"),), 0), ("sum", ((2, "y"),), 6),
    ("not", ("same", NODE, ("node", LEAF, "x"))), ("either", ("test", "leaf", "x"), ("test", "node", "x")),  # 18, 19
    ("same", "m", 3), ("same", "n", "m"), ("test", "node", NODE), ("not", ("test", "leaf", "x")),   # 20 to 23
    ("sum", ((2, "x"), (-2, "x")), 3), ("same", "z", "z"), ("same", "z", ("part", "node", 1, "x")),  # 24 to 26
)
STEPS = (
    (("given", 0), SHEET[2][0]), (("given", 3), SHEET[2][3]),
    (("within", "x"), ("sum", ((1, "x"),), 9)), (("within", "m"), ("sum", ((1, "m"),), 1)),
    (("left", 6), ("same", "m", 3)), (("right", 6), ("sum", (), -1)),
    (("turned", 5), ("test", "leaf", "z")),
    (("turned", 7), ("either", ("not", ("same", "x", "y")), ("not", ("test", "leaf", "z")))),
    (("turned", 8), ("both", ("not", ("same", "x", "y")), ("not", ("test", "leaf", "z")))),
    (("turned", 11), ("sum", ((-2, "z"), (3, "y"), (-1, "m")), 6)),
    (("linked", "x", ()), ("same", "x", "x")), (("linked", 7, ()), ("same", 7, 7)),
    (("linked", "x", (0,)), ("same", "x", NODE)), (("linked", NODE, (0,)), ("same", NODE, "x")),
    (("linked", "y", (1, 0)), ("same", "y", NODE)), (("linked", NODE, (0, 1)), ("same", NODE, "y")),
    (("linked", "x", (1, 1)), ("same", "x", "x")), (("linked", LEAF, (13, 0, 1, 1)), ("same", LEAF, "x")),
    (("linked", "z", (25, 25)), ("same", "z", "z")), (("linked", 3, (20, 21)), ("same", 3, "n")),
    (("alike", "leaf", ()), ("same", LEAF, LEAF)),
    (("alike", "node", (0, 1)), ("same", ("node", "x", "y"), ("node", NODE, "x"))),
    (("alike", "node", (1, 1)), ("same", ("node", "y", "y"), ("node", "x", "x"))),
    (("alikepart", "node", 0, 0), ("same", ("part", "node", 0, "x"), ("part", "node", 0, NODE))),
    (("alikepart", "node", 1, 1), ("same", ("part", "node", 1, "y"), ("part", "node", 1, "x"))),
    (("inner", 12, 0), ("same", "x", LEAF)), (("inner", 12, 1), ("same", "y", ("part", "node", 0, "z"))),
    (("taken", 0, 0), ("same", ("part", "node", 0, "x"), "y")), (("taken", 0, 1), ("same", ("part", "node", 1, "x"), "z")),
    (("taken", 13, 1), ("same", ("part", "node", 1, LEAF), "z")),
    (("elsewhere", 3, "node", 0), ("same", ("part", "node", 0, "y"), LEAF)),
    (("elsewhere", 3, "node", 1), ("same", ("part", "node", 1, "y"), LEAF)),
    (("tested", 0), ("test", "node", "x")), (("tested", 13), ("test", "node", LEAF)),
    (("shaped", 2), ("same", "x", ("node", ("part", "node", 0, "x"), ("part", "node", 1, "x")))),
    (("shaped", 3), ("same", "y", LEAF)),
    (("shaped", 22), ("same", NODE, ("node", ("part", "node", 0, NODE), ("part", "node", 1, NODE)))),
    (("moved", 2, 0), ("test", "node", NODE)), (("moved", 3, 1), ("test", "leaf", "x")),
    (("moved", 4, 0), ("not", ("same", NODE, "z"))),
    (("swapped", 4), ("not", ("same", "z", "x"))),
    (("swapped", 18), ("not", ("same", ("node", LEAF, "x"), NODE))),
    (("kind", "x"), ("sum", ((-1, "x"),), -1)), (("kind", 12), ("sum", ((-1, 12),), -1)),
    (("kind", ("part", "node", 0, NODE)), ("sum", ((-1, ("part", "node", 0, NODE)),), -1)),
    (("counts", NODE, True), ("sum", ((-1, "y"), (-1, "z"), (1, NODE)), 1)),
    (("counts", NODE, False), ("sum", ((1, "y"), (1, "z"), (-1, NODE)), -1)),
    (("counts", ("node", "z", "z"), True), ("sum", ((-2, "z"), (1, ("node", "z", "z"))), 1)),
    (("counts", LEAF, True), ("sum", ((1, LEAF),), 1)), (("counts", LEAF, False), ("sum", ((-1, LEAF),), -1)),
    (("counts", "m", True), ("sum", ((1, "m"),), 1)), (("counts", 5, False), ("sum", ((-1, 5),), -1)),
    (("sized", 0, True), ("sum", ((1, "x"), (-1, NODE)), 0)), (("sized", 0, False), ("sum", ((-1, "x"), (1, NODE)), 0)),
    (("sized", 1, True), ("sum", ((-1, "x"), (1, "y")), 0)), (("sized", 25, True), ("sum", (), 0)),
    (("sized", 20, False), ("sum", ((-1, "m"), (1, 3)), 0)),
    (("added", ((9, 1),), 0), ("sum", ((4, "n"), (12, "y"), (-8, ("node", "x", "z"))), 1000)),
    (("added", ((10, 2), (14, 1)), 3), ("sum", ((-12, "x"), (7, "y")), -1)),
    (("added", ((14, 1), (15, 1)), 0), ("sum", (), 0)), (("added", ((10, 10 ** 40),), 10 ** 41),
                                                        ("sum", ((-6 * 10 ** 40, "x"), (3 * 10 ** 40, "y")), 5 * 10 ** 40)),
    (("added", ((16, 1), (16, 2), (24, 1)), 0), ("sum", ((3, "m"),), 3)),
    (("cut", 9, 1), ("sum", ((4, "n"), (12, "y"), (-8, ("node", "x", "z"))), 1000)),
    (("cut", 9, 4), ("sum", ((1, "n"), (3, "y"), (-2, ("node", "x", "z"))), 250)),
    (("cut", 10, 3), ("sum", ((-2, "x"), (1, "y")), -2)), (("cut", 10, 1), ("sum", ((-6, "x"), (3, "y")), -5)),
    (("cut", 17, 2), ("sum", ((1, "y"),), 3)),
    (("gap", 14), ("sum", ((1, "y"),), 5)), (("gap", 15), ("sum", ((-1, "y"),), -7)), (("gap", 16), ("sum", ((1, "m"),), -1)),
)
WORDS = sorted({step[0] for step, _ in STEPS})


def facts_of_sum(factor, term, number):
    return (("sum", ((factor, term),), number),)


class EachStepTest(unittest.TestCase):

    def check(self, facts, step, wanted):
        told = fact_by(SHEET, facts, step)
        self.assertEqual(told, wanted, step)
        self.assertEqual(repr(told), repr(wanted))

    def test_by_hand(self):
        self.assertEqual(len(WORDS), 21)
        for step, wanted in STEPS:
            self.check(FACTS, step, wanted)

    def test_by_hand_however_many_facts_stand_ahead(self):
        for step, wanted in STEPS:
            self.check(FACTS + (("same", "x", "x"),), step, wanted)

    def test_without_facts(self):
        for step, wanted in STEPS:
            if step[0] in ("given", "within", "kind", "counts") or step[1:] in (("x", ()), (7, ()), ("leaf", ())):
                self.check((), step, wanted)
            else:
                self.assertIs(type(refusal(fact_by, SHEET, (), step)), NoStep)

    def test_numbers_of_facts(self):
        for step, wanted in STEPS:
            for other in spoiled(step, lambda inner: inner + 27 if type(inner) is int else inner):
                if step[0] in ("left", "right", "turned", "tested", "shaped", "swapped", "gap"):
                    self.assertEqual(refusal(fact_by, SHEET, FACTS, other) is None, other == step, other)

    def test_odd_things_in_any_place(self):
        for odd in NEVER[2:] + ("other", (), [0], 10 ** 39, -10 ** 39, "node ", ("leaf", "x")):
            for step, _ in STEPS:
                for other in spoiled(step, lambda inner: odd):
                    if other != step and other != ("linked", step[1], ()) and not self.is_still_one(step, other):
                        self.assertIs(type(refusal(fact_by, SHEET, FACTS, other)), NoStep, other)

    def is_still_one(self, step, other):
        """Whether a number that may be any was put in, or that of a mark."""
        if 10 ** 39 not in plain_things(other):
            return False
        return step[0] in ("linked", "kind", "counts", "added")

    def test_truths_are_no_numbers(self):
        for step, _ in STEPS:
            for truth in (True, False):
                for other in spoiled(step, lambda inner: truth if type(inner) is int else inner):
                    if other is not truth and repr(other) != repr(step):
                        self.assertIs(type(refusal(fact_by, SHEET, FACTS, other)), NoStep, other)

    def test_whole_numbers_are_no_truths(self):
        for step in (("counts", NODE, 1), ("counts", NODE, 0), ("sized", 0, 1), ("sized", 0, 0), ("counts", NODE, None),
                     ("sized", 0, None), ("sized", 0, "up"), ("counts", NODE, ())):
            self.assertIs(type(refusal(fact_by, SHEET, FACTS, step)), NoStep, step)

    def test_lists_in_the_place_of_tuples(self):
        for step, _ in STEPS:
            for other in spoiled_by_lists(step):
                self.assertIs(type(refusal(fact_by, SHEET, FACTS, other)), NoStep, other)

    def test_a_thing_more_or_fewer(self):
        for step, _ in STEPS:
            for other in (step[:-1], step + (0,), step + ((),), step + (True,), (step,), step[1:]):
                self.assertIs(type(refusal(fact_by, SHEET, FACTS, other)), NoStep, other)

    def test_of_anything(self):
        for thing in NEVER + ((), ("other",), ("other", 0), "given", 0, ("unlike", 0, 1), ("below", 6), ("span", "x", True),
                              ("makers", "x", ()), (("given",), 0), (None, 0), ([], 0), {"given": 0}, SHEET, FACTS):
            self.assertIs(type(refusal(fact_by, SHEET, FACTS, thing)), NoStep, thing)


def plain_things(thing):
    """All that is no tuple in a thing."""
    if isinstance(thing, tuple):
        return [found for inner in thing for found in plain_things(inner)]
    return [thing] if not isinstance(thing, (list, dict)) else []


class NoStepThereTest(unittest.TestCase):

    def check(self, *steps, facts=FACTS, sheet=SHEET):
        for step in steps:
            self.assertIs(type(refusal(fact_by, sheet, facts, step)), NoStep, step)

    def test_facts_of_other_words(self):
        for at, fact in enumerate(FACTS):
            if fact[0] != "both":
                self.check(("left", at), ("right", at))
            if fact[0] != "not" or fact[1][0] in ("same", "test"):
                self.check(("turned", at))
            if fact[0] != "same":
                self.check(("linked", "x", (at,)), ("alike", "node", (0, at)), ("alikepart", "node", 0, at),
                           ("inner", at, 0), ("taken", at, 0), ("tested", at), ("moved", 2, at), ("sized", at, True))
            if fact[0] != "test":
                self.check(("elsewhere", at, "node", 0), ("shaped", at))
            if fact[0] != "test" and (fact[0] != "not" or fact[1][0] != "same"):
                self.check(("moved", at, 0), ("swapped", at))
            if fact[0] != "sum":
                self.check(("added", ((at, 1),), 0), ("added", ((9, 1), (at, 1)), 0), ("cut", at, 1), ("gap", at))

    def test_given_and_within(self):
        self.check(("given", 4), ("given", -1), ("given", 10 ** 39), ("given", "x"), ("given", (0,)))
        self.check(("within", "y"), ("within", "n"), ("within", "w"), ("within", 3), ("within", LEAF), ("within", "tree"))
        self.check(("given", 0), sheet=(BINARY, SHEET[1], ()))

    def test_linked(self):
        self.check(("linked", "z", (0,)), ("linked", "y", (0,)), ("linked", "x", (0, 1, 0)), ("linked", "x", (20,)),
                   ("linked", "w", ()), ("linked", -1, ()), ("linked", ("leaf", "x"), ()), ("linked", True, ()),
                   ("linked", "x", 0), ("linked", "x", [0]), ("linked", "x", (27,)), ("linked", "x", (-1,)),
                   ("linked", "x", ((0,),)), ("linked", "x", None), ("linked", "x", "0"))

    def test_alike(self):
        self.check(("alike", "node", ()), ("alike", "node", (0,)), ("alike", "node", (0, 0, 0)), ("alike", "leaf", (0,)),
                   ("alike", "tree", ()), ("alike", "part", (0,)), ("alike", "x", ()), ("alike", "node", (0, 20)),
                   ("alike", "node", (20, 0)), ("alike", "node", 0), ("alike", "node", (0, None)))
        self.check(("alikepart", "node", 2, 0), ("alikepart", "node", -1, 0), ("alikepart", "leaf", 0, 0),
                   ("alikepart", "node", 0, 20), ("alikepart", "node", 0, 27), ("alikepart", "tree", 0, 0))

    def test_made_terms(self):
        self.check(("inner", 12, 2), ("inner", 12, -1), ("inner", 0, 0), ("inner", 1, 0), ("inner", 13, 0),
                   ("inner", 26, 0), ("taken", 0, 2), ("taken", 0, -1), ("taken", 1, 0), ("taken", 20, 0), ("taken", 26, 0),
                   ("taken", 25, 0), ("tested", 1), ("tested", 20), ("tested", 26), ("tested", 25))
        # Two made by one maker, but a part beside one that is made.
        self.check(("inner", 0, 0), ("tested", 0), ("taken", 0, 0), facts=(("same", NODE, ("part", "node", 0, "x")),))
        self.check(("inner", 0, 0), facts=(("same", ("part", "node", 0, "x"), ("part", "node", 0, "y")),))
        self.check(("inner", 0, 0), ("inner", 0, 1), ("taken", 0, 0), facts=(("same", LEAF, LEAF),))

    def test_two_makers_with_parts(self):
        sheet = (MIXED, (("b", "box", None), ("l", "lid", None)), ())
        facts = (("same", ("bare", "l"), ("void", "l")), ("same", ("void", "l"), ("void", ("plain",))))
        self.check(("inner", 0, 0), ("inner", 1, 1), facts=facts, sheet=sheet)
        self.assertEqual(fact_by(sheet, facts, ("inner", 1, 0)), ("same", "l", ("plain",)))
        self.assertEqual(fact_by(sheet, facts, ("taken", 0, 0)), ("same", ("part", "void", 0, ("bare", "l")), "l"))

    def test_names_that_begin_as_a_maker(self):
        kinds = (("k", (("a", ("k", "k")), ("b", ()))),)
        sheet = (kinds, (("ab", "k", None), ("ba", "k", None)), ())
        facts = (("same", "ab", ("a", "ab", "ba")), ("same", ("a", "ab", "ba"), "ab"), ("same", "ab", "ab"), ("same", "ab", "ba"))
        self.check(("inner", 0, 0), ("inner", 1, 0), ("inner", 2, 0), ("inner", 3, 0), ("taken", 1, 0), ("taken", 2, 0),
                   ("taken", 3, 0), ("tested", 1), ("tested", 2), ("tested", 3), ("counts", "ab", True), facts=facts, sheet=sheet)
        self.assertEqual(fact_by(sheet, facts, ("tested", 0)), ("test", "a", "ab"))

    def test_tests(self):
        self.check(("elsewhere", 3, "leaf", 0), ("elsewhere", 2, "node", 0), ("elsewhere", 2, "leaf", 0),
                   ("elsewhere", 3, "node", 2), ("elsewhere", 3, "node", -1), ("elsewhere", 3, "tree", 0))
        sheet = (LISTS, (("l", "list", None), ("i", "item", None)), ())
        facts = (("test", "nil", "l"), ("test", "sub", "i"))
        self.check(("elsewhere", 0, "pair", 0), ("elsewhere", 1, "cons", 0), ("elsewhere", 1, "sub", 0),
                   facts=facts, sheet=sheet)
        self.assertEqual(fact_by(sheet, facts, ("elsewhere", 0, "cons", 0)),
                         ("same", ("part", "cons", 0, "l"), ("count", 0)))
        self.assertEqual(fact_by(sheet, facts, ("elsewhere", 1, "pair", 1)),
                         ("same", ("part", "pair", 1, "i"), ("count", 0)))
        self.assertEqual(fact_by(sheet, facts, ("elsewhere", 1, "count", 0)), ("same", ("part", "count", 0, "i"), 0))

    def test_moved_goes_from_the_left_to_the_right(self):
        self.check(("moved", 3, 0), ("moved", 2, 1), ("moved", 4, 1), ("moved", 23, 0), ("moved", 5, 26), ("moved", 0, 0))
        facts = (("not", ("same", "x", "z")), ("same", "z", "y"))
        self.check(("moved", 0, 1), facts=facts)
        self.assertEqual(fact_by(SHEET, facts + (("not", ("same", "z", "x")),), ("moved", 2, 1)), ("not", ("same", "y", "x")))

    def test_sizes(self):
        self.check(("kind", "w"), ("kind", -1), ("kind", ()), ("kind", ("leaf", "x")), ("counts", "x", True),
                   ("counts", ("part", "node", 0, "x"), True), ("counts", "w", True), ("counts", -1, True))
        sheet = (MIXED, (("b", "box", None), ("l", "lid", None)), ())
        term = ("part", "wrap", 1, "b")
        self.assertEqual(fact_by(sheet, (), ("counts", term, False)), ("sum", ((-1, term),), -1))
        self.assertEqual(fact_by(sheet, (), ("kind", "b")), ("sum", ((-1, "b"),), -2))
        self.check(("counts", ("part", "wrap", 0, "b"), True), sheet=sheet)
        self.assertEqual(fact_by(sheet, (), ("counts", ("wrap", "l", term, "b"), True)),
                         ("sum", ((-1, "b"), (-1, "l"), (-1, term), (1, ("wrap", "l", term, "b"))), 1))

    def test_added_and_cut(self):
        self.check(("added", (), 0), ("added", ((9, 0),), 0), ("added", ((9, -1),), 0), ("added", ((9, 1),), -1),
                   ("added", ((9,),), 0), ("added", ((9, 1, 1),), 0), ("added", (9, 1), 0), ("added", ((27, 1),), 0),
                   ("added", ((9, 1), (9, 0)), 0), ("added", [(9, 1)], 0), ("added", ((9, 1),), None), ("added", ((-1, 1),), 0))
        self.check(("cut", 9, 0), ("cut", 9, -4), ("cut", 9, 3), ("cut", 9, 8), ("cut", 14, 2), ("cut", 27, 1), ("cut", -1, 1))
        for number, divided in ((-3, -2), (-4, -2), (-5, -3), (3, 1), (4, 2), (5, 2), (-1, -1), (0, 0), (1, 0)):
            self.assertEqual(fact_by(SHEET, (("sum", ((2, "x"),), number),), ("cut", 0, 2)), ("sum", ((1, "x"),), divided))
        for divisor in (1, 2, 7, 10 ** 39):
            told = fact_by(SHEET, (("sum", (), -1),), ("cut", 0, divisor))
            self.assertEqual(told, ("sum", (), -1))

    def test_rows_in_the_order_of_the_repr(self):
        terms = ("x", "z", "m", 0, 7, 10, 12, 2, LEAF, NODE, ("node", "x", "z"), ("part", "node", 0, "x"),
                 ("part", "node", 1, "x"), ("node", LEAF, "x"), ("node", ("node", "x", "x"), "x"))
        chance = random.Random(2)
        for _ in range(50):
            rows = [(chance.choice((-3, -1, 2)), term) for term in chance.sample(terms, chance.randint(2, 15))]
            told = fact_by(SHEET, (("sum", tuple(rows), 5),), ("added", ((0, 1),), 0))
            self.assertEqual(told, ("sum", tuple(sorted(rows, key=lambda row: repr(row[1]))), 5))
            self.assertEqual(fact_by(SHEET, (("sum", tuple(rows), 5),), ("cut", 0, 1)), told)

    def test_gap(self):
        # Trees of the sample have the odd sizes.
        for number in range(-5, 260):
            is_gap = number <= 200 and (number < 0 or number % 2 == 0)
            for factor, term in ((1, "y"), (-1, "y"), (1, ("node", "x", "y")), (-1, ("part", "node", 0, "x"))):
                step = ("gap", 0)
                facts = facts_of_sum(factor, term, factor * number)
                if is_gap:
                    wanted = ("sum", ((factor, term),), factor * number - 1)
                    self.assertEqual(fact_by(SHEET, facts, step), wanted, (factor, number))
                else:
                    self.check(step, facts=facts)
        for number in (-10 ** 39, -500):
            self.assertEqual(fact_by(SHEET, facts_of_sum(1, "y", number), ("gap", 0))[2], number - 1)
            self.assertEqual(fact_by(SHEET, facts_of_sum(-1, "y", -number), ("gap", 0))[2], -number - 1)
        self.check(("gap", 0), facts=(("sum", ((2, "y"),), 2),))
        self.check(("gap", 0), facts=(("sum", ((-2, "y"),), -2),))
        self.check(("gap", 0), facts=(("sum", ((1, "x"), (1, "y")), 2),))
        self.check(("gap", 0), facts=(("sum", (), 2),))
        for mark in ("m", 5, 0):
            for number in (-1, 0, 2, 3, 200):
                self.assertEqual(fact_by(SHEET, facts_of_sum(1, mark, number), ("gap", 0))[2], number - 1)
            self.check(("gap", 0), facts=facts_of_sum(1, mark, 1))
            self.check(("gap", 0), facts=facts_of_sum(1, mark, 201))

    def test_gap_of_kinds_without_small_trees(self):
        sheet = (GREAT, (("p", "a", None), ("q", "d", 40)), ())
        for number in (0, 4, 13, 40, 199, 200):
            self.assertEqual(fact_by(sheet, facts_of_sum(1, "p", number), ("gap", 0))[2], number - 1)
            self.assertEqual(refusal(fact_by, sheet, facts_of_sum(1, "q", number), ("gap", 0)) is None, number != 13)
        self.assertEqual(fact_by(sheet, (), ("kind", "p")), ("sum", ((-1, "p"),), -364))
        self.assertEqual(fact_by(sheet, (("test", "fb", "r"),), ("kind", "q")), ("sum", ((-1, "q"),), -13))


class GreatTest(unittest.TestCase):

    def test_deep_terms_and_formulas(self):
        sheet = (CHAIN, (("c", "chain", None), ("d", "chain", None)), ())
        for length in (200, 1000, 20000):
            deep = chain_of(length)
            self.assertTrue(are_alike(fact_by(sheet, (), ("linked", deep, ())), ("same", deep, chain_of(length))))
            facts = (("same", "c", deep), ("same", chain_of(length), "d"), ("not", ("same", deep, "c")))
            self.assertTrue(are_alike(fact_by(sheet, facts, ("linked", "c", (0, 1))), ("same", "c", "d")))
            self.assertTrue(are_alike(fact_by(sheet, facts, ("moved", 2, 1)), ("not", ("same", "d", "c"))))
            self.assertTrue(are_alike(fact_by(sheet, facts, ("alike", "next", (0,))),
                                      ("same", ("next", "c"), chain_of(length + 1))))
            self.assertTrue(are_alike(fact_by(sheet, facts, ("counts", deep, True)),
                                      ("sum", ((-1, deep[1]), (1, deep)), 1)))
            self.assertTrue(are_alike(fact_by(sheet, facts, ("sized", 0, False)), ("sum", ((-1, "c"), (1, deep)), 0)))
            formula = ("same", "c", "d")
            for _ in range(length):
                formula = ("not", formula)
            self.assertTrue(are_alike(fact_by(sheet, (formula,), ("turned", 0)), formula[1][1]))

    def test_told_least_trees(self):
        sheet = (GREAT, (("p", "a", None),), ())
        self.assertEqual(fact_by(sheet, (), ("linked", least_tree(GREAT, "a"), ()))[0], "same")


def random_step(chance, sheet, facts):
    """A thing of the form of a step, often one."""
    kinds, names, formulas = sheet
    makers = [(maker, parts) for _, rows in kinds for maker, parts in rows]
    number = chance.randrange(len(facts) + 1)
    maker, parts = chance.choice(makers)
    k = chance.randrange(len(parts)) if parts else 0
    term = random_term(chance, sheet, chance.choice(kinds + (("mark",),))[0], 2)
    sums = [at for at, fact in enumerate(facts) if fact[0] == "sum"] or [0]
    sames = [at for at, fact in enumerate(facts) if fact[0] == "same"] or [0]
    tests = [at for at, fact in enumerate(facts) if fact[0] == "test" or repr(fact)[:17] == "('not', ('same', "] or [0]
    same = chance.choice(sames)
    word = chance.choice(WORDS)
    return {"given": lambda: (word, chance.randrange(4)), "within": lambda: (word, chance.choice(names)[0] if names else "x"),
            "linked": lambda: (word, chance.choice((term, facts[same][1] if facts else term)),
                               tuple(chance.choice(sames) for _ in range(chance.randrange(3)))),
            "alike": lambda: (word, maker, tuple(chance.choice(sames) for _ in parts)),
            "alikepart": lambda: (word, maker, k, same), "inner": lambda: (word, same, k),
            "taken": lambda: (word, same, k), "elsewhere": lambda: (word, chance.choice(tests), maker, k),
            "moved": lambda: (word, chance.choice(tests), same), "kind": lambda: (word, term),
            "counts": lambda: (word, term, chance.choice((True, False))),
            "sized": lambda: (word, same, chance.choice((True, False))), "tested": lambda: (word, same),
            "added": lambda: (word, tuple((chance.choice(sums), chance.randint(1, 3))
                                          for _ in range(chance.randint(1, 3))), chance.randrange(2)),
            "cut": lambda: (word, chance.choice(sums), chance.randint(1, 3)), "gap": lambda: (word, chance.choice(sums)),
            }.get(word, lambda: (word, number))()


class SoundTest(unittest.TestCase):

    def test_each_step_holds_where_all_facts_do(self):
        chance = random.Random(21)
        seen = {word: 0 for word in WORDS}
        for _ in range(900):
            sheet = random_sheet(chance)
            answers = answers_to(sheet, 4, limit=12)
            if answers:
                answer = chance.choice(answers)
                formulas = tuple(formula for formula in sheet[2] if plain_holds(sheet, formula, answer))
                sheet = sheet[:2] + (formulas,)
                found = [random_formula(chance, sheet, 3) for _ in range(8)]
                facts = [fact for fact in found if fact is not None]
                facts = [fact if plain_holds(sheet, fact, answer) else ("not", fact) for fact in facts]
                for _ in range(25):
                    step = random_step(chance, sheet, facts)
                    if refusal(fact_by, sheet, tuple(facts), step) is None:
                        told = fact_by(sheet, tuple(facts), step)
                        self.assertTrue(plain_holds(sheet, told, answer), (sheet, answer, facts, step))
                        seen[step[0]] += 1
                        if len(repr(told)) < 300:
                            facts.append(told)
        self.assertGreater(min(seen.values()), 8, seen)


class RefusalsTest(unittest.TestCase):

    def test_sheets(self):
        check_sheets_refused(self, fact_by, (FACTS, ("left", 6)), (FACTS, None), ((), ()))

    def test_nothing_is_changed(self):
        facts = copy.deepcopy(FACTS)
        for step, wanted in STEPS:
            kept = copy.deepcopy(step)
            self.assertEqual(fact_by(SHEET, facts, step), wanted)
            self.assertEqual(step, kept)
        self.assertEqual(facts, FACTS)
        odd = ["given", {"x": [0]}]
        kept = copy.deepcopy(odd)
        self.assertIs(type(refusal(fact_by, SHEET, facts, odd)), NoStep)
        self.assertIs(type(refusal(fact_by, SHEET, facts, tuple(odd))), NoStep)
        self.assertEqual(odd, kept)


class InterfaceTest(unittest.TestCase):

    def test_names_and_arguments(self):
        self.assertEqual(module.fact_by.__module__, "madesure.papers.steps")
        self.assertEqual(str(inspect.signature(module.fact_by)), "(sheet, facts, step)")


if __name__ == "__main__":
    unittest.main()
