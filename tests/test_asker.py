import copy
import inspect
import random
import unittest
from unittest import mock

from madesure.decide.search import decide, shows, width_of
from madesure.errors import NoCore, NoDeed, NoFormula, NoKinds, NoLevel, NoNames, TooWide
from madesure.keep import asker as module
from madesure.keep.asker import Asker
from madesure.terms.terms import are_names, is_formula
from samples import (ALL_KINDS, BINARY, CHAIN, DAYS, LEAF, LISTS, MIXED, NEVER, random_formula, refusal, unlike)

X = ("name", "x", "tree", None)
Y = ("name", "y", "tree", 9)
TEST = ("formula", ("test", "node", "x"))
OTHER = ("formula", ("test", "leaf", "x"))
NO_DEEDS = NEVER + (
    "name", "level", ("name",), ("name", "x"), ("name", "x", "tree"), ("name", "x", "tree", None, None), ("formula",),
    ("formula", TEST[1], TEST[1]), ("level", 1), ("leave", None), ("back", ()), ("all",), ("all", (), ()), ("jump",), ("none",), ("none", 1),
    ("level", "leave"), ["level"], [X], (["level"],), (("level",),), ("Level",), (0,), (True,), ("do", X), ("put", TEST[1]), {"level": 1}, ())


def asker_of(*deeds, kinds=BINARY, **more):
    asker = Asker(kinds, **more)
    for deed in deeds:
        asker.do(deed)
    return asker


def state_of(asker):
    return asker.sheet(), asker.levels(), asker.decided(), len(asker), repr(asker), asker.is_busy()


class Plain:
    """An asker as the document says it: the deeds that stand, each with all that stood ahead of it."""

    def __init__(self, kinds):
        self.kinds = kinds
        self.rows = [((), (), ())]

    def next_of(self, state, deed, words):
        """What stands behind a deed, or the class of its refusal."""
        names, formulas, levels = state
        lengths = {"name": 4, "formula": 2, "level": 1, "leave": 1, "all": 2, "back": 1}
        if not isinstance(deed, tuple) or not deed or type(deed[0]) is not str or deed[0] not in words or len(deed) != lengths[deed[0]]:
            return NoDeed
        if deed[0] == "name":
            return (names + (deed[1:],), formulas, levels) if are_names(self.kinds, names + (deed[1:],)) else NoNames
        if deed[0] == "formula":
            if not is_formula((self.kinds, names, formulas), deed[1]) or len(formulas) == 10:
                return NoFormula
            return (names, formulas + (deed[1],), levels)
        if deed[0] == "level":
            return (names, formulas, levels + ((names, formulas),))
        if deed[0] == "leave":
            return (*levels[-1], levels[:-1]) if levels else NoLevel
        if not isinstance(deed[1], tuple):
            return NoDeed
        for inner in deed[1]:
            state = self.next_of(state, inner, ("name", "formula", "level", "leave"))
            if isinstance(state, type):
                return state
        return state

    def do(self, deed):
        if deed == ("back",):
            if len(self.rows) == 1:
                return NoLevel
            self.rows.pop()
            return None
        told = self.next_of(self.rows[-1], deed, ("name", "formula", "level", "leave", "all"))
        if isinstance(told, type):
            return told
        self.rows.append(told)
        return None


def random_deed(chance, asker, depth=0):
    word = chance.choice(("name", "formula", "formula", "level", "leave", "all", "back", "none"))
    kinds = [kind for kind, _ in asker.kinds] + ["mark", "other"]
    if word == "name":
        return ("name", chance.choice(("x", "y", "z", "u", "tree", "leaf")), chance.choice(kinds), chance.choice((None, 0, 3, 9, 41)))
    if word == "formula":
        formula = random_formula(chance, asker.sheet(), 2)
        return ("formula", chance.choice((formula, formula, formula, ("same", "x", "x"), ("sum", (), 0), None)))
    if word == "all" and depth < 2:
        return ("all", tuple(random_deed(chance, asker, depth + 1) for _ in range(chance.randint(0, 4))))
    return chance.choice(NO_DEEDS) if word == "none" and chance.random() < 0.4 else (("level",) if word in ("none", "all") else (word,))


class DeedsTest(unittest.TestCase):

    def test_each_deed(self):
        asker = Asker(BINARY)
        self.assertEqual(asker.sheet(), (BINARY, (), ()))
        self.assertIsNone(asker.name("x", "tree"))
        self.assertIsNone(asker.name("m", "mark", most=3))
        self.assertIsNone(asker.formula(("same", "x", LEAF)))
        self.assertEqual(asker.sheet(), (BINARY, (("x", "tree", None), ("m", "mark", 3)), (("same", "x", LEAF),)))
        self.assertEqual(asker.levels(), 0)
        self.assertIsNone(asker.level())
        self.assertEqual(asker.levels(), 1)
        self.assertIsNone(asker.do(Y))
        self.assertIsNone(asker.do(("formula", ("same", "y", "x"))))
        self.assertEqual(len(asker), 2)
        self.assertIsNone(asker.leave())
        self.assertEqual((asker.levels(), len(asker), len(asker.sheet()[1])), (0, 1, 2))
        self.assertIsNone(asker.all_of((Y, TEST, ("level",))))
        self.assertEqual((asker.levels(), len(asker), len(asker.sheet()[1])), (1, 2, 3))
        self.assertIsNone(asker.back())
        self.assertEqual((asker.levels(), len(asker), len(asker.sheet()[1])), (0, 1, 2))
        self.assertIs(asker.is_busy(), False)

    def test_levels_within_levels(self):
        asker = asker_of(X, ("level",), TEST, ("level",), Y, OTHER, ("level",))
        self.assertEqual(asker.levels(), 3)
        asker.leave()
        self.assertEqual((asker.levels(), asker.sheet()), (2, (BINARY, (X[1:], Y[1:]), (TEST[1], OTHER[1]))))
        asker.leave()
        self.assertEqual((asker.levels(), asker.sheet()), (1, (BINARY, (X[1:],), (TEST[1],))))
        asker.leave()
        self.assertEqual((asker.levels(), asker.sheet()), (0, (BINARY, (X[1:],), ())))
        with self.assertRaises(NoLevel):
            asker.leave()

    def test_back_over_leavings(self):
        asker = asker_of(X, ("level",), TEST, ("level",), Y, ("leave",), ("leave",))
        self.assertEqual((asker.levels(), asker.sheet()), (0, (BINARY, (X[1:],), ())))
        for levels, names, formulas in ((1, 1, 1), (2, 2, 1), (2, 1, 1), (1, 1, 1), (1, 1, 0), (0, 1, 0), (0, 0, 0)):
            asker.back()
            self.assertEqual((asker.levels(), len(asker.sheet()[1]), len(asker)), (levels, names, formulas))
        with self.assertRaises(NoLevel):
            asker.back()

    def test_back_over_rows(self):
        asker = asker_of(X, ("level",), ("all", (TEST, ("level",), Y, ("leave",), ("leave",), Y)), ("all", ()), ("all", (OTHER, ("level",))))
        self.assertEqual((asker.levels(), len(asker.sheet()[1]), len(asker)), (1, 2, 1))
        for levels, names, formulas in ((0, 2, 0), (0, 2, 0), (1, 1, 0), (0, 1, 0), (0, 0, 0)):
            asker.back()
            self.assertEqual((asker.levels(), len(asker.sheet()[1]), len(asker)), (levels, names, formulas))
        with self.assertRaises(NoLevel):
            asker.back()
        # A leave in a row may leave a level begun ahead of it: back it stands again.
        asker = asker_of(("level",), X, ("all", (("leave",), Y)))
        self.assertEqual((asker.levels(), asker.sheet()[1]), (0, (Y[1:],)))
        asker.back()
        self.assertEqual((asker.levels(), asker.sheet()[1]), (1, (X[1:],)))
        asker.leave()
        self.assertEqual((asker.levels(), asker.sheet()[1]), (0, ()))

    def test_a_refused_row_changes_nothing(self):
        asker = asker_of(X, ("level",), TEST)
        for deeds, error in (((Y, ("name", "x", "tree", None)), NoNames), ((Y, ("formula", ("same", "y", 3))), NoFormula),
                             ((("leave",), ("leave",)), NoLevel), ((Y, ("back",)), NoDeed), ((Y, ("all", ())), NoDeed), ((Y, None), NoDeed),
                             ((("leave",), Y, OTHER, ("level",), ("jump",)), NoDeed), ((("leave",), TEST, ("formula", None)), NoFormula)):
            stood = state_of(asker)
            for call in (lambda: asker.all_of(deeds), lambda: asker.do(("all", deeds))):
                self.assertIs(type(refusal(call)), error, deeds)
                self.assertEqual(state_of(asker), stood)
        asker.back()
        self.assertEqual((asker.levels(), len(asker)), (1, 0))
        # The first one that is refused is told, whatever stands behind it.
        self.assertIs(type(refusal(asker.all_of, (("leave",), ("leave",), None, ("name", "x", "tree", None)))), NoLevel)

    def test_names(self):
        asker = asker_of(*[("name", name, "tree", None) for name in "abcde"])
        for bad in (("a", "tree", None), ("tree", "tree", None), ("leaf", "tree", None), ("same", "tree", None), ("A", "tree", None),
                    ("", "tree", None), ("x", "other", None), ("x", "leaf", None), ("x", "tree", 41), ("x", "tree", -1), ("x", "tree", True),
                    ("x", None, None), (None, "tree", None), ("x", "tree", "3"), ([], "tree", None), ("x", ["tree"], None), ("x", "tree", [])):
            self.assertIs(type(refusal(asker.do, ("name", *bad))), NoNames, bad)
            self.assertIs(type(refusal(lambda: asker.name(bad[0], bad[1], most=bad[2]))), NoNames, bad)
        asker.name("f", "mark", most=40)
        self.assertIs(type(refusal(asker.name, "g", "mark")), NoNames)

    def test_formulas(self):
        asker = asker_of(X)
        bad = NEVER + (("same", "x", "y"), ("same", "x", 3), "x", ("node", "x", "x"), ("sum", ((1, "x"),), 0), list(TEST[1]))
        for formula in bad:
            self.assertEqual(refusal(asker.formula, formula).number, 0)
            self.assertEqual(refusal(asker.do, ("formula", formula)).number, 0)
        for _ in range(10):
            asker.do(TEST)
        for formula in bad:
            self.assertEqual(refusal(asker.formula, formula).number, 0)
        for formula in (TEST[1], OTHER[1], ("sum", (), 0)):
            error = refusal(asker.formula, formula)
            self.assertEqual((type(error), error.number), (NoFormula, -1))
        self.assertEqual(len(asker), 10)
        # A formula of names that are gone is none.
        asker = asker_of(("level",), X)
        asker.leave()
        self.assertEqual(refusal(asker.do, TEST).number, 0)

    def test_no_deeds(self):
        asker = asker_of(X, TEST)
        stood = state_of(asker)
        for deed in NO_DEEDS:
            self.assertIs(type(refusal(asker.do, deed)), NoDeed, deed)
            self.assertIs(type(refusal(asker.all_of, (deed,))), NoDeed, deed)
            self.assertIs(type(refusal(asker.all_of, (Y, deed))), NoDeed, deed)
        for deeds in NEVER + ([], [X], "level", {}, TEST[1][0], 3):
            if not isinstance(deeds, tuple):
                self.assertIs(type(refusal(asker.all_of, deeds)), NoDeed, deeds)
                self.assertIs(type(refusal(asker.do, ("all", deeds))), NoDeed, deeds)
        self.assertIs(type(refusal(asker.all_of, X)), NoDeed)
        for inner in (("back",), ("all", ()), ("all", (Y,)), ("all", 3)):
            self.assertIs(type(refusal(asker.all_of, (inner,))), NoDeed)
        self.assertEqual(state_of(asker), stood)

    def test_kinds(self):
        for bad in NEVER + ((), list(BINARY), (("tree", ()),), "tree"):
            self.assertIs(type(refusal(Asker, bad)), NoKinds, bad)

    def test_random_roads(self):
        chance = random.Random(101)
        refused = {}
        for _ in range(150):
            kinds = chance.choice(ALL_KINDS[:6])
            asker, plain = Asker(kinds), Plain(kinds)
            for _ in range(chance.randint(1, 25)):
                deed = random_deed(chance, asker)
                error, wanted = refusal(asker.do, deed), plain.do(deed)
                self.assertIs(type(error), type(None) if wanted is None else wanted, deed)
                refused[wanted] = refused.get(wanted, 0) + 1
                names, formulas, levels = plain.rows[-1]
                self.assertEqual((asker.sheet(), asker.levels()), ((kinds, names, formulas), len(levels)), deed)
                self.assertEqual(len(asker), len(formulas))
        self.assertGreater(min(refused.get(error, 0) for error in (None, NoDeed, NoNames, NoFormula, NoLevel)), 50, refused)


    def test_busy_within_a_deed(self):
        asker = Asker(BINARY)
        self.assertIs(asker.is_busy(), False)
        seen = []

        def looking(*args):
            seen.append(asker.is_busy())
            return are_names(*args)
        with mock.patch.object(module, "are_names", looking):
            asker.do(X)
            self.assertIsNotNone(refusal(asker.do, X))
            asker.all_of((Y,))
        self.assertEqual((seen, asker.is_busy()), ([True] * 3, False))


class LogTest(unittest.TestCase):

    def test_one_by_one(self):
        asker = Asker(BINARY)
        self.assertEqual(asker.log(), ())
        asker.name("x", "tree")
        asker.do(TEST)
        asker.level()
        asker.leave()
        asker.back()
        asker.all_of(())
        self.assertEqual(asker.log(), tuple((word, way) for word in ("name", "formula", "level", "leave", "back", "all") for way in ("in", "done")))

    def test_refused(self):
        asker = Asker(BINARY)
        for deed, word in ((("name", "tree", "tree", None), "name"), (("formula", None), "formula"), (("leave",), "leave"), (("back",), "back"),
                           (("all", 3), "all"), (("all", [X]), "all"), (("all",), "none"), (("jump",), "none"), (None, "none"), ([], "none"), (("level", 1), "none")):
            many = len(asker.log())
            self.assertIsNotNone(refusal(asker.do, deed))
            self.assertEqual(asker.log()[many:], ((word, "in"), (word, "refused")), deed)
        self.assertIsNotNone(refusal(asker.name, "x", "other"))
        self.assertIsNotNone(refusal(asker.all_of, None))
        self.assertEqual(asker.log()[-4:], (("name", "in"), ("name", "refused"), ("all", "in"), ("all", "refused")))

    def test_those_within(self):
        asker = Asker(BINARY)
        asker.all_of((X, TEST, ("level",)))
        self.assertEqual(asker.log(), (("all", "in"), ("name", "in"), ("name", "done"), ("formula", "in"), ("formula", "done"), ("level", "in"),
                                       ("level", "done"), ("all", "done")))
        many = len(asker.log())
        for last, word in ((("back",), "none"), (("all", ()), "none"), (None, "none"), (("formula", 3), "formula"), (X, "name")):
            self.assertIsNotNone(refusal(asker.all_of, (("leave",), last, Y, ("jump",))))
            self.assertEqual(asker.log()[many:], (("all", "in"), ("leave", "in"), ("leave", "done"), (word, "in"), (word, "refused"), ("all", "refused")))
            many = len(asker.log())

    def test_what_is_told_stays(self):
        asker = asker_of(X)
        told = asker.log()
        self.assertIsInstance(told, tuple)
        asker.do(TEST)
        asker.back()
        self.assertEqual(told, (("name", "in"), ("name", "done")))
        # Asking is no deed.
        many = len(asker.log())
        asker.ask()
        asker.follows(("same", "x", "x"))
        self.assertEqual(len(asker.log()), many)


class AskTest(unittest.TestCase):

    def check(self, asker):
        told = asker.ask()
        self.assertIs(shows(asker.sheet(), told), True)
        return told

    def test_what_was_told_last_and_is_right_still(self):
        asker = asker_of(X, TEST)
        told = self.check(asker)
        self.assertEqual((told[0], asker.decided()), ("yes", 1))
        self.assertEqual(asker.ask(), told)
        asker.formula(unlike("x", LEAF))
        self.assertEqual(self.check(asker), told)
        asker.level()
        asker.formula(("either", OTHER[1], ("same", "x", "x")))
        self.assertEqual((self.check(asker), asker.decided()), (told, 1))
        # It fits no more: so it is decided anew, and that is what is told from then on.
        asker.formula(OTHER[1])
        paper = self.check(asker)
        self.assertEqual((paper[0], asker.decided()), ("no", 2))
        asker.formula(("same", "x", "x"))
        self.assertEqual((asker.ask(), asker.decided()), (paper, 2))
        asker.back()
        asker.name("z", "tree")
        self.assertEqual((self.check(asker), asker.decided()), (paper, 2))
        asker.leave()
        self.assertEqual((self.check(asker), asker.decided()), (told, 3))

    def test_of_just_the_names_that_stand(self):
        asker = asker_of(X)
        self.check(asker)
        asker.do(Y)
        self.assertEqual((set(self.check(asker)[1]), asker.decided()), ({"x", "y"}, 2))
        asker.back()
        self.assertEqual((set(self.check(asker)[1]), asker.decided()), ({"x"}, 3))
        asker = asker_of(("name", "x", "tree", 3), TEST)
        told = self.check(asker)
        asker.back()
        asker.back()
        asker.name("x", "tree", most=2)
        self.assertEqual(self.check(asker), ("yes", {"x": LEAF}))
        self.assertNotEqual(told, ("yes", {"x": LEAF}))

    def test_a_paper_by_number(self):
        asker = asker_of(X, ("formula", ("same", "x", LEAF)), ("level",), ("formula", ("sum", (), -1)))
        paper = self.check(asker)
        asker.leave()
        asker.formula(("same", "x", "x"))
        self.assertEqual((self.check(asker)[0], asker.decided()), ("yes", 2))
        asker.back()
        asker.formula(("sum", (), -1))
        # The last told does not fit, and the one ahead of it is kept no more: but it comes to the same.
        self.assertEqual((self.check(asker)[0], asker.decided(), paper[0]), ("no", 3, "no"))

    def test_too_wide(self):
        asker = asker_of(("name", "x", "chain", 40), ("name", "y", "chain", 40), kinds=CHAIN)
        told = self.check(asker)
        asker.do(("formula", ("either", ("same", "x", "x"), ("same", "x", "y"))))
        self.assertEqual(width_of(asker.sheet()), 3200)
        self.assertEqual((asker.ask(), asker.decided()), (told, 1))
        asker.formula(unlike("x", "y"))
        for _ in range(2):
            self.assertIs(type(refusal(asker.ask)), TooWide)
            self.assertEqual(asker.decided(), 1)
        asker.back()
        self.assertEqual((asker.ask(), asker.decided()), (told, 1))
        wide = asker_of(*[("name", name, "chain", 40) for name in "xy"], ("formula", ("either", unlike("x", "y"), ("same", "x", "y"))), kinds=CHAIN, most=3200)
        self.check(wide)
        self.assertIs(type(refusal(wide.follows, ("test", "end", "x"))), TooWide)
        narrow = asker_of(("name", "x", "chain", 2), kinds=CHAIN, most=1)
        self.assertIs(type(refusal(narrow.ask)), TooWide)
        self.assertEqual(narrow.decided(), 0)

    def test_follows(self):
        asker = asker_of(X, TEST)
        self.assertEqual(asker.follows(("not", OTHER[1]))[0], "yes")
        self.assertEqual(asker.follows(("same", "x", ("node", LEAF, LEAF)))[0], "no")
        self.assertEqual(asker.decided(), 0)
        for formula in (None, ("same", "x", "y"), []):
            self.assertEqual(refusal(asker.follows, formula).number, 0)

    def test_what_is_told_may_be_changed(self):
        asker = asker_of(X, TEST)
        told = asker.ask()
        kept = copy.deepcopy(told)
        told[1].clear()
        self.assertEqual(asker.ask(), kept)
        asker.ask()[1]["x"] = LEAF
        self.assertEqual((asker.ask(), asker.decided()), (kept, 1))

    def test_random_roads_come_to_the_same(self):
        chance = random.Random(102)
        seen = {"yes": 0, "no": 0, "again": 0}
        for _ in range(60):
            asker = Asker(chance.choice((BINARY, CHAIN, LISTS, DAYS, MIXED)), most=10 ** 30)
            for _ in range(chance.randint(5, 30)):
                refusal(asker.do, random_deed(chance, asker))
                if chance.random() < 0.4:
                    many = asker.decided()
                    told = self.check(asker)
                    self.assertEqual(told[0], decide(asker.sheet(), most=10 ** 30)[0])
                    seen[told[0]] += 1
                    seen["again"] += asker.decided() == many
            fresh = asker_of(*[("name", *row) for row in asker.sheet()[1]], *[("formula", row) for row in asker.sheet()[2]], kinds=asker.kinds)
            self.assertEqual(fresh, asker)
        self.assertGreater(min(seen.values()), 20, seen)


class ObjectTest(unittest.TestCase):

    def test_alike_whatever_the_road(self):
        asker = asker_of(X, TEST)
        for other in (asker_of(X, TEST, most=3), asker_of(X, ("level",), TEST), asker_of(Y, ("back",), X, TEST), asker_of(("all", (X, TEST))),
                      asker_of(X, ("level",), Y, ("leave",), TEST)):
            self.assertTrue(asker == other)
            self.assertFalse(asker != other)
        other = asker_of(X, TEST)
        other.ask()
        self.assertTrue(asker == other)
        for other in (Asker(BINARY), asker_of(X), asker_of(X, OTHER), asker_of(X, TEST, TEST), asker_of(X, Y, TEST), asker_of(Y, X, TEST),
                      asker_of(("name", "x", "tree", 3), TEST), None, "asker", asker.sheet(), 3, Asker(CHAIN)):
            self.assertFalse(asker == other)
            self.assertTrue(asker != other)
        self.assertFalse(Asker(BINARY) == Asker(CHAIN))

    def test_length_and_repr(self):
        asker = Asker(BINARY)
        self.assertEqual((len(asker), repr(asker)), (0, "Asker(0 names, 0 formulas)"))
        asker.all_of((X, Y, TEST, TEST, TEST))
        self.assertEqual((len(asker), repr(asker), str(asker)), (3, "Asker(2 names, 3 formulas)", "Asker(2 names, 3 formulas)"))
        asker = asker_of(X, TEST)
        self.assertEqual((len(asker), repr(asker)), (1, "Asker(1 names, 1 formulas)"))

    def test_names_and_arguments(self):
        self.assertEqual(Asker.__module__, "madesure.keep.asker")
        self.assertEqual(str(inspect.signature(Asker)), "(kinds, *, most=2000)")
        for name, arguments in (("name", "(self, name, kind, *, most=None)"), ("formula", "(self, formula)"), ("level", "(self)"), ("leave", "(self)"),
                                ("back", "(self)"), ("all_of", "(self, deeds)"), ("do", "(self, deed)"), ("ask", "(self)"), ("follows", "(self, formula)"),
                                ("sheet", "(self)"), ("levels", "(self)"), ("decided", "(self)"), ("log", "(self)"), ("is_busy", "(self)")):
            self.assertEqual(str(inspect.signature(vars(Asker)[name])), arguments, name)
        for name in ("__eq__", "__len__", "__repr__"):
            self.assertIn(name, vars(Asker))
        self.assertEqual(module.WIDTH, 2000)


if __name__ == "__main__":
    unittest.main()
