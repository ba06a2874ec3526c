import copy
import inspect
import random
import unittest

from madesure.ask import general as module
from madesure.ask.general import general, put_in, shows_general
from madesure.decide.search import decide
from madesure.errors import NoFormula, NoKinds, NoNames, NoPlain, NoSheet, NoTerm
from madesure.papers.papers import shows_no
from madesure.papers.steps import fact_by
from madesure.terms.nested import are_alike
from samples import (ALL_KINDS, BINARY, CHAIN, LEAF, LISTS, MIXED, NEVER, SHEET, answers_to, chain_on, check_refusals,
                     check_sheets_refused, doubled, plain_holds, plain_kind, plain_worth, random_kinds, random_term, refusal,
                     spoiled, spoiled_by_lists)
from madesure.kinds.kinds import is_kinds

FREE = tuple((name, "tree", None) for name in "xyzuvw")
PART = ("part", "node", 0, "x")


def sheet_of(*formulas, names=FREE):
    return (BINARY, names, formulas)


def own_terms(term):
    return term[3:] if isinstance(term, tuple) and term[0] == "part" else term[1:] if isinstance(term, tuple) else ()


def names_within(term):
    return [term] if isinstance(term, str) else [name for own in own_terms(term) for name in names_within(own)]


def put_plainly(bindings, term):
    """A term with each bound name's term put in, again and again."""
    bound = dict(bindings)
    while any(name in bound for name in names_within(term)):
        term = put_once(bound, term)
    return term


def put_once(bound, term):
    if isinstance(term, str):
        return bound.get(term, term)
    many = len(term) - len(own_terms(term)) if isinstance(term, tuple) else 0
    return term[:many] + tuple(put_once(bound, own) for own in own_terms(term)) if many else term


def facts_of(sheet, steps):
    facts = ()
    for step in steps:
        facts = facts + (fact_by(sheet, facts, step),)
    return facts


def random_plain(chance):
    kinds = chance.choice(ALL_KINDS[:3] + (MIXED, None))
    while kinds is None or not is_kinds(kinds):
        kinds = random_kinds(chance)
    kinds_here = [kind for kind, _ in kinds] + ["mark"]
    names = tuple((name, chance.choice(kinds_here), None) for name in "xyzuvw"[:chance.randint(0, 6)])
    formulas = []
    for _ in range(chance.randint(0, 5)):
        kind = chance.choice(kinds_here)
        terms = [random_term(chance, (kinds, names, ()), kind, 3) for _ in range(2)]
        if None not in terms and "part" not in repr(terms):
            formulas.append(("same", *terms))
    return (kinds, names, tuple(formulas))


class GeneralTest(unittest.TestCase):

    def told(self, sheet, wanted=None):
        told = general(sheet)
        self.assertIs(shows_general(sheet, told), True, sheet)
        if wanted is not None:
            self.assertEqual(told[0], wanted, sheet)
        if told[0] == "no":
            self.assertEqual(len(told), 2)
            self.assertIs(shows_no(sheet, told[1]), True)
            return told
        word, bindings, steps = told
        self.assertEqual(word, "general")
        kinds = {name: kind for name, kind, _ in sheet[1]}
        for at, (name, term) in enumerate(bindings):
            self.assertEqual(plain_kind(sheet, term), kinds[name])
            self.assertNotIn(name, [other for other, _ in bindings[:at]])
            for other in [other for other, _ in bindings[:at + 1]]:
                self.assertNotIn(other, names_within(term), bindings)
        rows = [fact for fact in facts_of(sheet, steps) if any(are_alike(fact, ("same", *pair)) for pair in bindings)]
        places = [[at for at, fact in enumerate(rows) if fact == ("same", *pair)] for pair in bindings]
        last = -1
        for row in places:
            last = min([at for at in row if at > last])
        return told

    def test_ordinary_sheets(self):
        self.assertEqual(self.told(sheet_of()), ("general", (), ()))
        self.assertEqual(self.told((BINARY, (), ())), ("general", (), ()))
        self.assertEqual(self.told(sheet_of(("same", "x", "x")), "general")[1], ())
        self.assertEqual(self.told(sheet_of(("same", "x", LEAF)), "general")[1], (("x", LEAF),))
        told = self.told(sheet_of(("same", ("node", "x", LEAF), ("node", ("node", "y", "z"), "u"))), "general")
        self.assertEqual(dict(told[1]), {"x": ("node", "y", "z"), "u": LEAF})
        self.told(sheet_of(("same", "x", ("node", "y", "y")), ("same", "y", ("node", "z", "z")), ("same", "z", LEAF)), "general")
        self.told(sheet_of(("same", "x", "y"), ("same", "z", "y"), ("same", "u", "z")), "general")

    def test_two_makers_marks_rings(self):
        self.told(sheet_of(("same", LEAF, ("node", "x", "y"))), "no")
        self.told(sheet_of(("same", "x", LEAF), ("same", "y", "x"), ("same", ("node", "z", "z"), "y")), "no")
        marks = (("i", "item", None), ("m", "mark", None), ("n", "mark", None))
        self.told((LISTS, marks, (("same", "i", ("count", 3)), ("same", ("count", "m"), "i"), ("same", "m", 4))), "no")
        told = self.told((LISTS, marks, (("same", "i", ("count", 3)), ("same", ("count", "m"), "i"), ("same", "m", "n"))), "general")
        self.assertEqual(dict(told[1])["n"], 3)
        self.told((LISTS, (), (("same", 3, 4),)), "no")
        self.told((LISTS, (), (("same", 3, 3),)), "general")
        self.told(sheet_of(("same", "x", ("node", "x", "y"))), "no")
        self.told(sheet_of(("same", "x", ("node", "y", LEAF)), ("same", "y", ("node", LEAF, "z")), ("same", "z", "x")), "no")
        self.told(sheet_of(("same", ("node", "x", "y"), ("node", ("node", "y", "y"), ("node", "x", "x")))), "no")

    def test_kinds_with_one_tree(self):
        # All their trees are alike; what is told goes by what is said alone.
        kinds = (("one", (("only", ()),)), ("two", (("pair", ("one", "one")),)))
        names = (("x", "one", None), ("y", "one", None), ("p", "two", None))
        self.assertEqual(self.told((kinds, names, ()))[1], ())
        self.assertEqual(self.told((kinds, names, (("same", ("pair", "x", "y"), ("pair", "y", "x")),)))[1], (("y", "x"),))

    def test_bound_names_within_bound_names(self):
        rows = [("same", one, ("node", other, other)) for one, other in zip("xyzuv", "yzuvw")]
        for order in (rows, rows[::-1], rows[1::2] + rows[::2]):
            told = self.told(sheet_of(*order), "general")
            self.assertEqual([name for name, _ in told[1]], list("xyzuv"))
            self.assertEqual(put_plainly(told[1], "x"), doubled("w", 5))
        # Both sides come to terms of 2 ** 36 words.
        deep = [("same", one, doubled(other, 6)) for one, other in zip("xyzuv", "yzuvw")]
        self.told(sheet_of(*deep, ("same", ("node", "x", "y"), ("node", "x", "y"))), "general")
        told = self.told(sheet_of(*deep, ("same", "w", doubled(LEAF, 6))), "general")
        self.assertIs(put_in(sheet_of(), told[1], doubled("v", 6), doubled(doubled("w", 6), 6)), True)
        self.assertIs(put_in(sheet_of(), told[1], "u", doubled(doubled("w", 6), 6)), True)
        self.assertIs(put_in(sheet_of(), told[1], "v", doubled("w", 5)), False)

    def test_random(self):
        chance = random.Random(71)
        seen = {"no": 0, "general": 0}
        for _ in range(700):
            sheet = random_plain(chance)
            told = self.told(sheet)
            seen[told[0]] += 1
            self.assertEqual(decide(sheet)[0], "no" if told[0] == "no" else "yes")
            for answer in answers_to(sheet, 3, limit=25):
                fits = all(plain_holds(sheet, formula, answer) for formula in sheet[2])
                if told[0] == "no":
                    self.assertFalse(fits)
                else:
                    bound = all(answer[name] == plain_worth(sheet, term, answer) for name, term in told[1])
                    self.assertEqual(fits, bound, (sheet, answer))
        self.assertGreater(min(seen.values()), 100, seen)


class PutInTest(unittest.TestCase):
    BINDINGS = (("x", ("node", "y", "z")), ("y", ("node", "z", LEAF)))

    def test_comes_to_one(self):
        for one, other, wanted in (
                ("x", "x", True), ("x", "y", False), ("y", ("node", "z", LEAF), True), ("x", ("node", "y", "z"), True),
                ("x", ("node", ("node", "z", LEAF), "z"), True), ("x", ("node", "z", "y"), False), ("z", "u", False), ("z", "z", True),
                (PART, ("part", "node", 0, ("node", "y", "z")), True), (PART, "y", False), (PART, ("part", "node", 1, "x"), False),
                (3, 3, True), (3, 4, False), (LEAF, LEAF, True), (LEAF, 0, False), ("x", LEAF, False)):
            self.assertIs(put_in(sheet_of(), self.BINDINGS, one, other), wanted, (one, other))
            self.assertIs(put_in(sheet_of(), self.BINDINGS, other, one), wanted, (one, other))

    def test_whatever_the_formulas_come_to(self):
        for formulas in ((), (("same", LEAF, ("node", "x", "x")),), (("same", "x", "u"),)):
            self.assertIs(put_in(sheet_of(*formulas), (("x", LEAF),), "x", LEAF), True)
            self.assertIs(put_in(sheet_of(*formulas), (), "x", "u"), False)

    def test_against_plain_putting(self):
        chance = random.Random(72)
        names = FREE[:4]
        sheet = (BINARY, names, ())
        for _ in range(300):
            order = chance.sample("xyzu", 4)
            bindings = ()
            for at, name in enumerate(order[:chance.randint(0, 3)]):
                term = random_term(chance, (BINARY, tuple(row for row in names if row[0] in order[at + 1:]), ()), "tree", 2)
                if term is not None:
                    bindings = bindings + ((name, term),)
            terms = [random_term(chance, sheet, "tree", 2) for _ in range(2)]
            for one, other in (terms, (terms[0], put_once(dict(bindings), terms[0]))):
                wanted = put_plainly(bindings, one) == put_plainly(bindings, other)
                self.assertIs(put_in(sheet, bindings, one, other), wanted, (bindings, one, other))

    def test_deep_terms(self):
        sheet = (CHAIN, (("x", "chain", None), ("y", "chain", None)), ())
        deep = chain_on("x", 200)
        self.assertIs(put_in(sheet, (("y", deep),), deep, "y"), True)
        self.assertIs(put_in(sheet, (("y", deep),), chain_on("x", 199), "y"), False)
        self.assertIs(put_in(sheet, (("y", deep),), chain_on(deep, 900), chain_on("y", 900)), True)


class ShowsTest(unittest.TestCase):
    SHEET = sheet_of(("same", "x", ("node", "y", LEAF)), ("same", ("node", "y", "z"), ("node", ("node", "u", "u"), LEAF)))
    NO = sheet_of(("same", "x", ("node", "y", LEAF)), ("same", "y", ("node", LEAF, "x")))

    def test_any_that_fits(self):
        told = general(self.SHEET)
        steps = (("given", 0), ("given", 1), ("inner", 1, 0), ("inner", 1, 1))
        rows = (("x", ("node", "y", LEAF)), ("y", ("node", "u", "u")), ("z", LEAF))
        self.assertIs(shows_general(self.SHEET, told), True)
        self.assertIs(shows_general(self.SHEET, ("general", rows, steps)), True)
        self.assertIs(shows_general(self.SHEET, ("general", rows, steps + (("swapped", 0),))), False)
        self.assertIs(shows_general(self.SHEET, ("general", rows, steps + (("given", 0), ("linked", "u", ())))), True)
        # In another order, the steps in that order too.
        self.assertIs(shows_general(self.SHEET, ("general", (rows[2],) + rows[:2], steps)), False)
        self.assertIs(shows_general(self.SHEET, ("general", (rows[2],) + rows[:2], steps + (("linked", "x", (0,)), ("inner", 1, 0)))), True)
        self.assertIs(shows_general(self.SHEET, ("general", (rows[2],) + rows[:2], steps + (("inner", 1, 0), ("linked", "x", (0,))))), False)
        # A bound name's term has none in it that is bound ahead.
        self.assertIs(shows_general(self.SHEET, ("general", (rows[1], rows[0], rows[2]), steps[1:3] + (("given", 0), ("inner", 0, 1)))), False)
        # Bound to what comes of it behind: the first pair's term put in.
        whole = ("x", ("node", ("node", "u", "u"), LEAF))
        more = steps + (("linked", LEAF, ()), ("alike", "node", (2, 4)), ("linked", "x", (0, 5)), ("linked", "y", (2,)), ("linked", "z", (3,)))
        self.assertIs(shows_general(self.SHEET, ("general", (whole,) + rows[1:], more)), True)
        self.assertIs(shows_general(self.SHEET, ("general", (rows[1], whole, rows[2]), more)), True)
        self.assertIs(shows_general(self.SHEET, ("general", (rows[2], rows[1], whole), more)), False)
        self.assertIs(shows_general(self.SHEET, ("general", (rows[2], rows[1], whole), more + (("linked", "x", (6,)),))), True)

    def test_what_is_left_out(self):
        steps = (("given", 0), ("given", 1), ("inner", 1, 0), ("inner", 1, 1))
        rows = (("x", ("node", "y", LEAF)), ("y", ("node", "u", "u")), ("z", LEAF))
        for at in range(3):
            self.assertIs(shows_general(self.SHEET, ("general", rows[:at] + rows[at + 1:], steps)), False)
        for at in range(4):
            self.assertIs(shows_general(self.SHEET, ("general", rows, steps[:at] + steps[at + 1:])), False)
        self.assertIs(shows_general(self.SHEET, ("general", rows, ())), False)
        # More is bound than is told.
        self.assertIs(shows_general(sheet_of(), ("general", (("x", LEAF),), ())), False)
        self.assertIs(shows_general(sheet_of(), ("general", (("x", "y"),), (("linked", "x", ()),))), False)
        self.assertIs(shows_general(sheet_of(("same", "y", "x")), ("general", (("x", "y"),), (("given", 0),))), False)
        self.assertIs(shows_general(sheet_of(("same", "y", "x")), ("general", (("x", "y"),), (("given", 0), ("linked", "x", (0,))))), True)
        self.assertIs(shows_general(sheet_of(("same", "y", "x")), ("general", (("y", "x"),), (("given", 0),))), True)

    def test_bent(self):
        for sheet in (self.SHEET, self.NO):
            told = general(sheet)
            for other in spoiled_by_lists(told):
                self.assertIs(shows_general(sheet, other), False, other)
            for odd in NEVER + ("other", 17, ("x", "x")):
                for other in spoiled(told, lambda inner: odd):
                    self.assertIs(shows_general(sheet, other), False, other)
            for thing in NEVER + ((), told[:1], told[:2] + (None,), told + ((),), list(told), told[1], (None,) + told[1:],
                                  ([],) + told[1:], "general", ("no",), ("no", None), ("general", (), None), ("yes", {}),
                                  ("general", told[1]), ("no",) + told[1:] + ((),), ("general", [], ())):
                self.assertIs(shows_general(sheet, thing), False, thing)
        self.assertIs(shows_general(self.SHEET, general(self.NO)), False)
        self.assertIs(shows_general(self.NO, general(self.SHEET)), False)


class RefusalsTest(unittest.TestCase):
    NOT_PLAIN = tuple(sheet_of(formula, names=names) for formula, names in (
        (("same", "x", "y"), (("x", "tree", 3), ("y", "tree", None))), (("same", "x", "y"), (("x", "tree", None), ("y", "tree", 0))),
        (("same", "x", PART), FREE), (("same", ("node", "x", ("node", PART, "x")), "x"), FREE), (("not", ("same", "x", "y")), FREE),
        (("both", ("same", "x", "y"), ("same", "x", "y")), FREE), (("test", "leaf", "x"), FREE), (("sum", (), 0), FREE),
        (("either", ("same", "x", "y"), ("same", "x", "y")), FREE)))
    NO_BINDINGS = NEVER + (
        [], [("x", LEAF)], (("x",),), (("x", LEAF, LEAF),), (["x", LEAF],), ((LEAF, "x"),), (("q", LEAF),), (("x", "q"),), (("x", 3),),
        (("x", "x"),), (("x", ("node", "y", "x")),), (("x", LEAF), ("x", LEAF)), (("x", "y"), ("y", "x")), (("x", "y"), ("z", "x")),
        (("node", LEAF),), (("x", None),), (("x", []),), ((["x"], LEAF),), (("x", LEAF), None), ("x", LEAF), (("x", ("node", LEAF)),))

    def test_sheets(self):
        check_sheets_refused(self, general, ())
        check_sheets_refused(self, shows_general, (("general", (), ()),), (None,))
        check_sheets_refused(self, put_in, ((), "x", "x"), (None, None, None))

    def test_not_plain(self):
        bad = tuple((sheet, NoPlain) for sheet in self.NOT_PLAIN) + ((None, NoSheet), ((None, None, None), NoKinds),
                                                                     ((BINARY, None, None), NoNames), ((BINARY, FREE, (3,)), NoFormula))
        check_refusals(self, general, (sheet_of(),), (bad,))
        check_refusals(self, lambda sheet: shows_general(sheet, None), (sheet_of(),), (bad,))
        check_refusals(self, put_in, (sheet_of(), (), "x", "x"), (
            bad, tuple((thing, NoTerm) for thing in self.NO_BINDINGS), tuple((thing, NoTerm) for thing in NEVER + ("q", ("node", "x"))),
            tuple((thing, NoTerm) for thing in NEVER + (("leaf", "x"), ("node", "x", 3)))))

    def test_no_bindings_are_not_shown(self):
        for bindings in self.NO_BINDINGS:
            self.assertIs(shows_general(sheet_of(), ("general", bindings, ())), False, bindings)
            self.assertIs(shows_general(sheet_of(("same", "x", "y")), ("general", bindings, (("given", 0),))), False, bindings)

    def test_nothing_is_changed(self):
        sheet = copy.deepcopy(ShowsTest.SHEET)
        told = general(sheet)
        self.assertEqual(sheet, ShowsTest.SHEET)
        self.assertEqual(general(sheet), told)
        odd = [["general"], []]
        kept = copy.deepcopy(odd)
        self.assertIs(shows_general(sheet, odd), False)
        self.assertIs(type(refusal(put_in, sheet, odd, odd, odd)), NoTerm)
        self.assertIs(type(refusal(general, SHEET)), NoPlain)
        self.assertEqual(odd, kept)


class InterfaceTest(unittest.TestCase):

    def test_names_and_arguments(self):
        for name, arguments in (("general", "(sheet)"), ("shows_general", "(sheet, thing)"), ("put_in", "(sheet, bindings, one, other)")):
            function = getattr(module, name)
            self.assertEqual(function.__module__, "madesure.ask.general")
            self.assertEqual(str(inspect.signature(function)), arguments)


if __name__ == "__main__":
    unittest.main()
