import copy
import inspect
import random
import unittest

from madesure.errors import NoKind, NoKinds, NoTerm
from madesure.terms import terms as module
from madesure.terms.terms import are_names, is_formula, is_sheet, is_term, kind_of
from samples import (ALL_KINDS, BAD_SHEETS, BINARY, DAYS, FORMULAS, LEAF, LISTS, MIXED, NAMES, NEVER, SHEET, chain_of,
                     check_refusals, check_sheets_refused, plain_kind, random_formula, random_sheet, random_term,
                     refusal, spoiled, spoiled_by_lists)

# What can stand in no place of a sheet: None may be a most, and -1 a factor.
ODD = tuple(thing for thing in NEVER if thing is not None and thing != -1)
MIXED_SHEET = (MIXED, (("p", "box", 12), ("q", "lid", None), ("r", "mark", 0)), ())
TERMS = (("x", "tree"), ("m", "mark"), (0, "mark"), (10 ** 39, "mark"), (LEAF, "tree"), (("node", "x", LEAF), "tree"),
         (("part", "node", 1, "y"), "tree"), (("part", "node", 0, ("part", "node", 1, ("node", "x", "y"))), "tree"),
         (("node", ("part", "node", 0, LEAF), ("node", "x", "x")), "tree"))
MIXED_TERMS = ((("wrap", "q", "r", "p"), "box"), (("part", "wrap", 0, "p"), "lid"), (("part", "wrap", 1, "p"), "mark"),
               (("part", "wrap", 2, ("bare", "q")), "box"), (("tagged", ("part", "tagged", 0, "q")), "lid"),
               (("part", "void", 0, ("wrap", ("plain",), 7, "p")), "lid"))


def sum_of(many, number=0, factor=1):
    """A sum of this many unlike terms."""
    return ("sum", tuple((factor, chain_term(length)) for length in range(many)), number)


def chain_term(length):
    term = "x"
    for _ in range(length):
        term = ("node", term, "x")
    return term


def nots(many):
    formula = ("same", "x", "y")
    for _ in range(many):
        formula = ("not", formula)
    return formula


def balanced(many):
    """A term of this many texts, the fewest tuples within one another."""
    if many < 3:
        return "x" if many == 1 else None
    left = (many - 1) // 2
    left += 1 - left % 2
    return ("node", balanced(left), balanced(many - 1 - left))


class NamesTest(unittest.TestCase):

    def test_names(self):
        for names in ((), NAMES, (("x", "tree", None),), (("x", "mark", 0),), (("x", "mark", 40), ("y", "tree", 0))):
            self.assertIs(are_names(BINARY, names), True, names)
        self.assertIs(are_names(LISTS, (("x", "list", 1), ("y", "item", None), ("z", "mark", 3))), True)

    def test_none_to_six(self):
        for many in range(9):
            names = tuple((name, "tree", None) for name in "abcdefghi"[:many])
            self.assertIs(are_names(BINARY, names), many <= 6, many)

    def test_names_unlike_one_another_and_those_of_kinds_and_makers(self):
        for names in ((("x", "tree", None), ("x", "tree", None)), (("x", "tree", None), ("y", "tree", 3), ("x", "mark", 3))):
            self.assertIs(are_names(BINARY, names), False)
        for name in ("tree", "node", "leaf"):
            self.assertIs(are_names(BINARY, ((name, "tree", None),)), False, name)
            self.assertIs(are_names(DAYS, ((name, "day", None),)), True, name)
        for name in ("list", "item", "cons", "nil", "count", "pair", "sub"):
            self.assertIs(are_names(LISTS, (("x", "list", None), (name, "list", None))), False, name)

    def test_what_is_no_name(self):
        for name in ("mark", "part", "same", "test", "sum", "not", "both", "either", "", "abcdefghi", "A", "x1", "x ",
                     None, 0, True, ("x",), ["x"], [], {}):
            self.assertIs(are_names(BINARY, ((name, "tree", None),)), False, name)

    def test_what_is_no_kind(self):
        for kind in ("node", "leaf", "item", "", "part", "Mark", None, 0, True, ("tree",), [], {}):
            self.assertIs(are_names(BINARY, (("x", kind, None),)), False, kind)

    def test_mosts(self):
        for most in (None, 0, 1, 2, 39, 40):
            self.assertIs(are_names(BINARY, (("x", "tree", most),)), True, most)
        for most in (-1, 41, 100, 10 ** 39, -10 ** 39, True, False, "3", "", (), (3,), [3], {}):
            self.assertIs(are_names(BINARY, (("x", "tree", most),)), False, most)

    def test_of_anything(self):
        for thing in NEVER[:-1] + (("x", "tree", None), (("x", "tree"),), (("x", "tree", None, None),), ((),), "x", "xtn",
                                   ("xtn",), NAMES + (None,), 5):
            self.assertIs(are_names(BINARY, thing), False, thing)
        for other in spoiled_by_lists(NAMES):
            self.assertIs(are_names(BINARY, other), False, other)
        check_refusals(self, are_names, (BINARY, NAMES), (tuple((thing, NoKinds) for thing in NEVER + ((),)), ()))


class TermsTest(unittest.TestCase):

    def test_terms_and_their_kinds(self):
        for sheet, rows in ((SHEET, TERMS), (MIXED_SHEET, MIXED_TERMS)):
            for term, kind in rows:
                self.assertIs(is_term(sheet, term), True, term)
                self.assertEqual(kind_of(sheet, term), kind, term)
                for other in [kind for kind, _ in sheet[0]] + ["mark"]:
                    self.assertIs(is_term(sheet, term, kind=other), other == kind, (term, other))
                self.assertIs(is_term(sheet, term, kind=None), True)

    def test_trees_are_terms(self):
        self.assertEqual(kind_of(MIXED_SHEET, ("wrap", ("tagged", 5), 0, ("bare", ("plain",)))), "box")
        self.assertEqual(kind_of((LISTS, (), ()), ("cons", ("count", 3), ("nil",))), "list")

    def test_what_is_no_term(self):
        for thing in NEVER + ("w", "tree", "node", "leaf", "mark", -5, (), ("node",), ("node", "x"), ("node", "x", "m"),
                              ("node", "x", "x", "x"), ("leaf", "x"), ("x",), ("x", "y"), ("m",), (0,), ("mark", 0),
                              ("node", "x", 0), ("node", "x", ("leaf", ())), ("tree", "x", "y"), ("Node", "x", "y"),
                              ("part", "node", 2, "x"), ("part", "node", -1, "x"), ("part", "node", True, "x"),
                              ("part", "node", False, "x"), ("part", "node", "0", "x"), ("part", "node", None, "x"),
                              ("part", "leaf", 0, "x"), ("part", "tree", 0, "x"), ("part", "part", 0, "x"),
                              ("part", "node", 0, "m"), ("part", "node", 0), ("part", "node", 0, "x", "y"),
                              ("part", ["node"], 0, "x"), ("part", "node", 0, 5), ("part", "node", 10 ** 39, "x"),
                              ("same", "x", "x"), FORMULAS[0], (("node",), "x", "y"), (["node"], "x", "y")):
            for other in (thing, ("node", thing, "x"), ("node", "x", thing), ("part", "node", 0, thing)):
                self.assertIs(is_term(SHEET, other), False, other)
                self.assertIs(is_term(SHEET, other, kind="tree"), False, other)
                self.assertIs(type(refusal(kind_of, SHEET, other)), NoTerm, other)

    def test_terms_of_another_kind_within(self):
        for thing in (("wrap", "q", "p", "p"), ("wrap", "p", "r", "p"), ("bare", "p"), ("bare", 0), ("tagged", "q"),
                      ("part", "wrap", 0, "q"), ("part", "tagged", 0, "p"), ("tagged", ("part", "wrap", 0, "p")),
                      ("bare", ("part", "wrap", 1, "p")), ("part", "tagged", 0, ("part", "wrap", 1, "p"))):
            self.assertIs(is_term(MIXED_SHEET, thing), False, thing)

    def test_bent_terms(self):
        for sheet, rows in ((SHEET, TERMS), (MIXED_SHEET, MIXED_TERMS)):
            for term, _ in rows:
                for other in spoiled_by_lists(term):
                    self.assertIs(is_term(sheet, other), False, other)
                for odd in NEVER + (("leaf", "x"), "other", ("part",), {"x": 1}):
                    for other in spoiled(term, lambda inner: odd):
                        self.assertIs(is_term(sheet, other), False, other)

    def test_deep_ones(self):
        for deep in (1, 199, 200, 201, 20000):
            term = chain_term(deep)
            self.assertIs(is_term(SHEET, term, kind="tree"), True)
            self.assertEqual(kind_of(SHEET, term), "tree")
            part = "x"
            for _ in range(deep):
                part = ("part", "node", 1, part)
            self.assertIs(is_term(SHEET, part, kind="tree"), True)
            self.assertIs(is_term(SHEET, part, kind="mark"), False)
        odd = "w"
        for _ in range(200):
            odd = ("node", odd, "x")
        self.assertIs(is_term(SHEET, odd), False)

    def test_random_terms(self):
        chance = random.Random(3)
        seen = 0
        for _ in range(200):
            sheet = random_sheet(chance)
            for kind in [kind for kind, _ in sheet[0]] + ["mark"]:
                term = random_term(chance, sheet, kind, 3)
                if term is not None:
                    self.assertEqual(kind_of(sheet, term), kind)
                    for odd in (0, "x", "y", ("part", "axx", 0, "x")):
                        for other in list(spoiled(term, lambda inner: odd))[:30]:
                            wanted = plain_kind(sheet, other)
                            self.assertIs(is_term(sheet, other), wanted is not None, (sheet, other))
                            seen += wanted is None
        self.assertGreater(seen, 300)

    def test_refusals(self):
        no_kinds = tuple((thing, NoKind) for thing in NEVER[:2] + NEVER[3:] + ("leaf", "item", 0, ("tree",)))
        check_refusals(self, lambda kind: is_term(SHEET, "x", kind=kind), ("tree",), (no_kinds,))
        for thing, error in no_kinds:
            self.assertIs(type(refusal(lambda: is_term(SHEET, None, kind=thing))), error)
        check_sheets_refused(self, is_term, ("x",), (None,), ([],))
        check_sheets_refused(self, lambda sheet, kind: is_term(sheet, "x", kind=kind), ("tree",), ("no",), ([],))
        check_sheets_refused(self, kind_of, ("x",), (None,), ([],))


class FormulasTest(unittest.TestCase):

    def test_formulas(self):
        for formula in FORMULAS + (("same", "x", "x"), ("same", 3, 3), ("same", "n", 0), ("test", "leaf", LEAF),
                                   ("test", "node", ("part", "node", 0, "y")), ("sum", (), -500), ("sum", (), 500),
                                   ("sum", ((9, "x"), (-9, "z"), (1, "m"), (-1, 4), (2, LEAF)), -3),
                                   ("not", ("not", ("not", FORMULAS[3]))), ("both", FORMULAS[0], FORMULAS[0])):
            self.assertIs(is_formula(SHEET, formula), True, formula)
            self.assertIs(is_sheet((BINARY, NAMES, (formula,))), True, formula)

    def check_none(self, thing):
        for other in (thing, ("not", thing), ("both", thing, FORMULAS[0]), ("both", FORMULAS[0], thing),
                      ("either", thing, FORMULAS[0]), ("either", FORMULAS[0], ("not", thing))):
            self.assertIs(is_formula(SHEET, other), False, other)
            self.assertIs(is_sheet((BINARY, NAMES, (other,))), False, other)

    def test_what_is_no_formula(self):
        for thing in NEVER + ("x", 0, LEAF, ("same",), ("same", "x"), ("same", "x", "y", "z"), ("same", "x", "m"),
                              ("same", "x", 0), ("same", "x", "w"), ("same", None, None), ("same", [], []),
                              ("Same", "x", "y"), ("test", "node"), ("test", "node", "x", "x"), ("test", "node", "m"),
                              ("test", "node", 0), ("test", "tree", "x"), ("test", "x", "node"), ("test", "other", "x"),
                              ("test", None, "x"), ("test", ["leaf"], "x"), ("test", "mark", "m"), ("sum",),
                              ("sum", ()), ("sum", (), 0, 0), ("sum", None, 0), ("sum", ((1, "x"),)), ("not",),
                              ("not", "x"), ("both", FORMULAS[0]), ("both", FORMULAS[0], FORMULAS[0], FORMULAS[0]),
                              ("either",), ("either", FORMULAS[0]), ("not", FORMULAS[0], FORMULAS[0]), ("part", "x", "y"),
                              ("mark", "x", "y"), (["same"], "x", "y"), (("same",), "x", "y")):
            self.check_none(thing)

    def test_sums(self):
        for number in (-500, -499, 0, 500):
            self.assertIs(is_formula(SHEET, ("sum", ((1, "x"),), number)), True, number)
        for number in (-501, 501, 10 ** 39, True, False, None, "0", (), [0]):
            self.check_none(("sum", ((1, "x"),), number))
        for factor in (-9, -1, 1, 9):
            self.assertIs(is_formula(SHEET, ("sum", ((factor, "x"),), 0)), True, factor)
        for factor in (-10, 0, 10, 10 ** 39, True, False, None, "1", (), [1]):
            self.check_none(("sum", ((factor, "x"),), 0))
            self.check_none(("sum", ((1, "z"), (factor, "x")), 0))
        for row in ((1,), (1, "x", "x"), [1, "x"], "1x", ("x", 1), (), None, 1, {1: "x"}, (1, None), (1, "w"), (1, [])):
            self.check_none(("sum", (row,), 0))
            self.check_none(("sum", ((2, "z"), row), 0))
        self.check_none(("sum", [(1, "x")], 0))
        self.check_none(("sum", (1, "x"), 0))

    def test_none_to_six_rows(self):
        for many in range(9):
            self.assertIs(is_formula(SHEET, sum_of(many)), many <= 6, many)

    def test_terms_of_a_sum_are_unlike(self):
        for term in ("x", 3, LEAF, ("node", "x", LEAF), ("part", "node", 0, "x")):
            self.check_none(("sum", ((1, term), (2, term)), 0))
            self.check_none(("sum", ((1, term), (-1, "z"), (1, term)), 0))
        self.assertIs(is_formula(SHEET, ("sum", ((1, ("node", "x", "z")), (1, ("node", "z", "x"))), 0)), True)
        self.assertIs(is_formula(SHEET, ("sum", ((1, 0), (1, 1), (1, "m")), 0)), True)

    def test_all_names_in_a_sum_have_a_most(self):
        for term in ("y", "n", ("node", "x", "y"), ("node", "y", "x"), ("part", "node", 0, "y"),
                     ("node", LEAF, ("node", ("part", "node", 1, "y"), "x"))):
            self.check_none(("sum", ((1, term),), 0))
            self.check_none(("sum", ((1, "x"), (-1, term)), 0))
        self.assertIs(is_formula(SHEET, ("same", "y", ("node", "y", "x"))), True)

    def test_tuples_within_one_another(self):
        for many in range(16):
            self.assertIs(is_formula(SHEET, nots(many)), many < 12, many)
            self.assertIs(is_sheet((BINARY, NAMES, (FORMULAS[0], nots(many)))), many < 12, many)
            self.assertIs(is_formula(SHEET, ("same", "x", chain_term(many))), many < 12, many)
            self.assertIs(is_formula(SHEET, ("sum", ((1, chain_term(many)),), 0)), many < 10, many)
        self.assertIs(is_formula(SHEET, nots(20000)), False)
        deep = FORMULAS[0]
        for _ in range(200):
            deep = ("both", deep, deep)
        self.assertIs(is_formula(SHEET, deep), False)

    def test_texts_and_numbers_in_all(self):
        for many in (1, 3, 501, 993, 995, 997, 999, 1001, 1003, 3001):
            formula = ("same", "x", balanced(many))
            self.assertIs(is_formula(SHEET, formula), many + 2 <= 1000, many)
            formula = ("both", ("test", "leaf", balanced(many)), ("sum", ((1, "x"),), 0))
            self.assertIs(is_formula(SHEET, formula), many + 7 <= 1000, many)
        self.assertIs(is_formula(SHEET, ("not", ("same", LEAF, balanced(997)))), True)
        self.assertIs(is_formula(SHEET, ("not", ("not", ("same", LEAF, balanced(997))))), False)

    def test_bent_formulas(self):
        for formula in FORMULAS:
            for other in spoiled_by_lists(formula):
                self.assertIs(is_formula(SHEET, other), False, other)
            for odd in ODD + ({"x": 1}, "other"):
                for other in spoiled(formula, lambda inner: odd):
                    self.assertIs(is_formula(SHEET, other), False, other)

    def test_random_formulas(self):
        chance = random.Random(4)
        seen = 0
        for _ in range(300):
            sheet = random_sheet(chance)
            self.assertIs(is_sheet(sheet), True, sheet)
            formula = random_formula(chance, sheet, 3)
            if formula is not None:
                seen += 1
                self.assertIs(is_formula(sheet, formula), True, formula)
        self.assertGreater(seen, 100)

    def test_refusals(self):
        check_sheets_refused(self, is_formula, (FORMULAS[0],), (None,), ([],))


class SheetsTest(unittest.TestCase):

    def test_sheets(self):
        self.assertIs(is_sheet(SHEET), True)
        for kinds in ALL_KINDS:
            self.assertIs(is_sheet((kinds, (), ())), True)

    def test_what_is_no_sheet(self):
        for thing, _, _ in BAD_SHEETS:
            self.assertIs(is_sheet(thing), False, thing)
        for other in spoiled_by_lists(SHEET):
            self.assertIs(is_sheet(other), False, other)

    def test_none_to_ten_formulas(self):
        for many in range(13):
            self.assertIs(is_sheet((BINARY, NAMES, (FORMULAS[1],) * many)), many <= 10, many)

    def test_bent_sheets(self):
        for odd in ODD:
            for other in spoiled(SHEET, lambda inner: odd):
                self.assertIs(is_sheet(other), False, other)

    def test_nothing_is_changed(self):
        odd = [[("x", "tree", [])], {"same": ["x", "y"]}]
        kept = copy.deepcopy(odd)
        for thing in (odd, tuple(odd), (BINARY, odd, odd), (BINARY, NAMES, odd), (BINARY, NAMES, tuple(odd))):
            self.assertIs(is_sheet(thing), False)
            self.assertIsNotNone(refusal(is_term, thing, odd))
        for function in (is_term, is_formula):
            self.assertIs(function(SHEET, odd), False)
            self.assertIs(function(SHEET, tuple(odd)), False)
        self.assertEqual(odd, kept)


class InterfaceTest(unittest.TestCase):

    def test_names_and_arguments(self):
        wanted = {"are_names": "(kinds, thing)", "is_term": "(sheet, thing, *, kind=None)",
                  "is_formula": "(sheet, thing)", "is_sheet": "(thing)", "kind_of": "(sheet, term)"}
        for name, arguments in wanted.items():
            function = getattr(module, name)
            self.assertEqual(function.__module__, "madesure.terms.terms")
            self.assertEqual(str(inspect.signature(function)), arguments)


if __name__ == "__main__":
    unittest.main()
