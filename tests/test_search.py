import copy
import inspect
import random
import unittest
from itertools import combinations, product

from madesure.decide import search as module
from madesure.decide.search import WIDTH, decide, shows, width_of
from madesure.errors import TooWide
from madesure.papers.papers import length_of, shows_no, thinned
from madesure.terms.meaning import first_false, is_answer
from samples import (ALL_KINDS, BINARY, CHAIN, DAYS, GREAT, LATER, LEAF, LISTS, MIXED, NEVER, SHEET, all_of, answers_to,
                     chain_of, chain_on, check_sheets_refused, depth_of, doubled, exactly, fits_plainly, great_size, near_sheet,
                     plain_holds, plain_size, random_sheet, refusal, spoiled, spoiled_by_lists, trees_in_order, unlike)

WIDE = 10 ** 30
FREE = tuple((name, "tree", None) for name in "xyzuvw")


def part(k, term, maker="node"):
    return ("part", maker, k, term)


def tree_sheet(*formulas, names=FREE):
    return (BINARY, names, formulas)


def chain_sheet(mosts, *formulas):
    return (CHAIN, tuple((name, "chain", most) for name, most in zip("xyzuvw", mosts)), formulas)


def all_unlike(names):
    return all_of(unlike(one, other) for one, other in combinations(names, 2))


class CheckedCase(unittest.TestCase):

    def decided(self, sheet, wanted=None, most=WIDE):
        """What is told of a sheet, looked at by the plain meaning or as a paper."""
        told = decide(sheet, most=most)
        self.assertIsInstance(told, tuple)
        self.assertEqual(len(told), 2)
        self.assertIs(shows(sheet, told), True, sheet)
        if told[0] == "yes":
            self.assertIs(is_answer(sheet, told[1]), True)
            self.assertIsNone(first_false(sheet, told[1]))
        else:
            self.assertEqual(told[0], "no")
            self.assertIs(shows_no(sheet, told[1]), True)
            # No step stands there by which nothing goes.
            self.assertEqual(length_of(thinned(sheet, told[1])), length_of(told[1]))
        if wanted is not None:
            self.assertEqual(told[0], wanted, sheet)
        return told[1]


class WidthTest(unittest.TestCase):

    def test_of_formulas(self):
        same = ("same", "x", "y")
        for formulas, wanted in (
                ((), 1), ((same,), 1), ((same,) * 10, 1), ((("not", same),), 1), ((("both", same, same),), 2),
                ((("either", same, same),), 2), ((("not", ("both", same, ("either", same, same))),), 4),
                ((("test", "node", "x"),), 2), ((("test", "leaf", "x"), ("test", "leaf", "x")), 4),
                ((("same", "x", part(0, "y")),), 2), ((("same", part(1, part(0, "x")), part(0, "y")),), 8),
                ((("test", "leaf", part(0, "x")),), 4), ((("same", ("node", part(0, "x"), part(0, "x")), "y"),), 4),
                ((("sum", ((2, ("node", LEAF, LEAF)), (1, LEAF)), 3),), 1), ((("sum", ((1, part(0, LEAF)),), 3),), 2),
                ((("either", ("test", "node", "x"), ("both", same, ("not", ("test", "node", part(0, "z"))))),) * 2, 1024)):
            self.assertEqual(width_of(tree_sheet(*formulas)), wanted, formulas)

    def test_of_mosts(self):
        for mosts, wanted in (((), 1), ((None,), 1), ((0,), 1), ((1,), 1), ((2,), 2), ((40,), 40), ((0, 7, None), 7),
                              ((40, 40), 1600), ((3, 4, 5, 0, None, 2), 120)):
            self.assertEqual(width_of(chain_sheet(mosts)), wanted, mosts)
        self.assertEqual(width_of(chain_sheet((3, None), ("either", ("test", "end", "x"), ("test", "end", "y")))), 24)

    def test_by_the_makers_of_the_kind(self):
        names = (("l", "list", None), ("i", "item", None), ("m", "mark", 1))
        for formula, wanted in ((("test", "cons", "l"), 2), (("test", "pair", "i"), 3), (("same", "m", part(0, "i", "count")), 3),
                                (("same", "l", part(1, "l", "cons")), 2), (("same", "i", part(0, part(1, "l", "cons"), "cons")), 4),
                                (("test", "sub", part(0, "l", "cons")), 6)):
            self.assertEqual(width_of((LISTS, names, (formula,))), wanted, formula)
        self.assertEqual(width_of((DAYS, (("d", "day", 40),), (("test", "mon", "d"),))), 160)
        self.assertEqual(width_of((GREAT, (("p", "a", None),), (("test", "fa", "p"),))), 1)

    def test_too_wide(self):
        self.assertEqual(WIDTH, 2000)
        for mosts, width in (((40, 10, 5), 2000), ((23, 29, 3), 2001), ((40, 40, 2), 3200)):
            sheet = chain_sheet(mosts)
            self.assertEqual(width_of(sheet), width)
            error = refusal(decide, sheet)
            self.assertIs(type(error), TooWide if width > 2000 else type(None), mosts)
            self.assertEqual(decide(sheet, most=width)[0], "yes")
            with self.assertRaises(TooWide):
                decide(sheet, most=width - 1)
        for sheet in (tree_sheet(), chain_sheet((0, 1))):
            self.assertIsNotNone(decide(sheet, most=1))
            with self.assertRaises(TooWide):
                decide(sheet, most=0)
        # However soon it could be told that none fits.
        sheet = chain_sheet((40, 40, 2), ("sum", (), -1))
        with self.assertRaises(TooWide):
            decide(sheet)
        # What is told is shown, however wide.
        self.assertIs(shows(sheet, ("no", ((("given", 0),), ("below", 0)))), True)
        self.assertIs(shows(sheet, ("yes", {"x": ("end",), "y": ("end",), "z": ("end",)})), False)


class DecideTest(CheckedCase):

    def test_the_least_of_sheets(self):
        self.assertEqual(self.decided((BINARY, (), ()), "yes"), {})
        self.assertEqual(set(self.decided(tree_sheet(), "yes")), set("xyzuvw"))
        self.assertEqual(self.decided((BINARY, (), (("sum", (), 0),)), "yes"), {})
        self.decided((BINARY, (), (("sum", (), -1),)), "no")
        self.decided((BINARY, (), (("same", LEAF, ("node", LEAF, LEAF)),)), "no")
        self.decided((BINARY, (), (("same", 3, 3),)), "yes")
        self.decided((BINARY, (), (("not", ("same", 3, 3)),)), "no")
        self.decided((BINARY, (), (("sum", ((2, 5),), 2),)), "yes")
        self.decided((BINARY, (), (("sum", ((2, 5),), 1),)), "no")
        self.decided((BINARY, (), (("sum", ((-2, 5),), -3),)), "no")
        self.decided((BINARY, (), (("test", "leaf", LEAF), ("not", ("test", "node", part(0, LEAF)))),), "yes")

    def test_mosts(self):
        for kinds, kind, least in ((BINARY, "tree", 1), (LISTS, "item", 2), (GREAT, "d", 13), (BINARY, "mark", 1), (GREAT, "c", 40)):
            self.decided((kinds, (("x", kind, least),), ()), "yes")
            self.decided((kinds, (("x", kind, least - 1),), ()), "no")
            self.decided((kinds, (("x", kind, 0),), ()), "no")
            self.decided((kinds, (("x", kind, None),), ()), "yes")
        self.decided((GREAT, (("x", "a", 40),), ()), "no")
        self.decided((GREAT, (("x", "a", None),), ()), "yes")

    def test_of_each_kind_of_formula(self):
        for sheet, wanted in (
                (tree_sheet(("same", "x", ("node", "y", "z")), ("test", "leaf", "x")), "no"),
                (tree_sheet(("same", "x", ("node", "y", "z")), ("test", "leaf", "y")), "yes"),
                (tree_sheet(("same", "x", ("node", "y", "x"))), "no"),
                (tree_sheet(("same", "x", ("node", "y", LEAF)), ("same", "y", ("node", LEAF, "x"))), "no"),
                (tree_sheet(("not", ("same", "x", "x"))), "no"), (tree_sheet(unlike("x", "y")), "yes"),
                (tree_sheet(("not", ("test", "leaf", "x")), ("not", ("test", "node", "x"))), "no"),
                (tree_sheet(unlike("x", LEAF), unlike("x", ("node", part(0, "x"), part(1, "x")))), "no"),
                (tree_sheet(unlike(part(0, "x"), LEAF), ("test", "leaf", "x")), "no"),
                (tree_sheet(unlike(part(0, "x"), part(0, "y")), ("test", "leaf", "x")), "yes"),
                (tree_sheet(unlike(part(0, "x"), part(0, "y")), ("test", "leaf", "x"), ("test", "leaf", "y")), "no"),
                (tree_sheet(("either", ("test", "leaf", "x"), ("test", "leaf", "y")), ("test", "node", "x"),
                            ("not", ("test", "leaf", "y"))), "no"),
                (tree_sheet(("not", ("both", ("test", "leaf", "x"), ("test", "leaf", "y"))), ("test", "leaf", "x"),
                            ("test", "leaf", "y")), "no"),
                (tree_sheet(("not", ("either", ("same", "x", "y"), ("not", ("same", "x", "y"))))), "no"),
                (tree_sheet(("not", ("not", ("not", ("same", "x", "x"))))), "no"),
                (tree_sheet(("not", ("sum", (), 0))), "no"), (tree_sheet(("not", ("sum", (), -1))), "yes"),
                (chain_sheet((5, 9), ("sum", ((1, "x"), (-1, "y")), -5), ("sum", ((1, "y"),), 5)), "no"),
                (chain_sheet((5, 9), ("sum", ((1, "x"), (-1, "y")), -5), ("sum", ((1, "y"),), 6)), "yes"),
                (chain_sheet((5, 9), ("sum", ((-1, part(0, "x", "next")),), -5)), "no"),
                (chain_sheet((5, 9), ("sum", ((-1, part(0, "x", "next")),), -4)), "yes"),
                (chain_sheet((5, None), ("same", "y", chain_on("x", 3)), ("same", "y", chain_of(8))), "yes"),
                (chain_sheet((5, None), ("same", "y", chain_on("x", 3)), ("same", "y", chain_of(9))), "no"),
                (chain_sheet((5, 3), ("not", ("sum", ((1, chain_on("x", 2)), (1, "y")), 9))), "yes"),
                (chain_sheet((5, 3), ("not", ("sum", ((1, chain_on("x", 2)), (1, "y")), 10))), "no")):
            self.decided(sheet, wanted)

    def test_by_sizes_that_there_are_not(self):
        trees = tuple((name, "tree", 40) for name in "xy")
        self.decided((BINARY, trees, exactly(2, (1, "x"))), "no")
        self.decided((BINARY, trees, exactly(7, (1, "x"))), "yes")
        self.decided((BINARY, trees, exactly(1, (1, "x"), (-1, "y"))), "no")
        self.decided((BINARY, trees, exactly(2, (2, "x"), (3, "y"), (-1, ("node", "x", "y")))), "yes")
        lists = (("l", "list", 20), ("i", "item", 20))
        self.decided((LISTS, lists, exactly(4, (1, "l"))), "yes")
        self.decided((LISTS, lists, exactly(2, (1, "l"))), "no")
        self.decided((LISTS, lists, exactly(3, (1, "l"))), "no")
        self.decided(chain_sheet((12, 12, 12), *exactly(1, (3, "x"), (6, "y"), (-9, "z"))), "no")
        self.decided(chain_sheet((12, 12, 12), *exactly(3, (3, "x"), (6, "y"), (-9, "z"))), "yes")
        self.decided(chain_sheet((40, 40), *exactly(1, (3, "x"), (-7, "y")), *exactly(3, (5, "x"), (-6, "y"))), "no")

    def test_by_each_size_there_is(self):
        sizes = range(1, 7)
        for factors in ((3, 5), (4, -3), (7, 2), (5, -9)):
            for number in range(-40, 60, 3):
                wanted = [(x, y) for x in sizes for y in sizes if factors[0] * x + factors[1] * y == number]
                told = self.decided(chain_sheet((6, 6), *exactly(number, (factors[0], "x"), (factors[1], "y"))), "yes" if wanted else "no")
                if wanted:
                    self.assertIn((depth_of(told["x"]), depth_of(told["y"])), wanted)
        for factors in ((4, 6, 9), (6, 9, -4), (9, -7, 5), (8, 9, -6)):
            for number in range(-30, 90):
                wanted = [row for row in product(range(1, 6), repeat=3) if sum(one * other for one, other in zip(factors, row)) == number]
                told = self.decided(chain_sheet((5, 5, 5), *exactly(number, *zip(factors, "xyz"))), "yes" if wanted else "no")
                if wanted:
                    self.assertIn(tuple(depth_of(told[name]) for name in "xyz"), wanted)
        # One of each size alone, however the bounds are halved.
        for x, y, z in product((1, 2, 5, 8, 9), repeat=3):
            rows = exactly(9 * x - 7 * y, (9, "x"), (-7, "y")) + exactly(8 * y - 9 * z, (8, "y"), (-9, "z")) + exactly(x + y + z, (1, "x"), (1, "y"), (1, "z"))
            told = self.decided(chain_sheet((9, 9, 9), *rows), "yes")
            self.assertEqual([depth_of(told[name]) for name in "xyz"], [x, y, z])

    def test_parts_that_have_no_most_yet(self):
        # Where the part is of a tree made otherwise, nothing bounds it: its least size could be raised for ever.
        sheet = (MIXED, (("b", "box", 12),), exactly(1, (3, part(2, "b", "wrap")), (-3, part(0, "b", "bare"))))
        self.decided(sheet, "no")
        self.decided((LISTS, (("l", "list", 9),), exactly(-2, (1, part(0, "l", "cons")), (-1, part(1, "l", "cons")))), "yes")

    def test_when_there_are_too_few_trees(self):
        for names in ("xyz", "xyzu", "xyzuv", "xyzuvw"):
            rows = tuple((name, "day", None) for name in names)
            self.decided((DAYS, rows, (all_unlike(names),)), "yes" if len(names) <= 4 else "no")
            for most in (3, 4):
                wanted = "yes" if len(names) <= most else "no"
                self.decided(chain_sheet((most,) * len(names), all_unlike(names)), wanted)
            rows = tuple((name, "tree", 5) for name in names)
            self.decided((BINARY, rows, (all_unlike(names),)), "yes" if len(names) <= 4 else "no")
            rows = tuple((name, "mark", 1) for name in names)
            self.decided((BINARY, rows, (all_unlike(names),)), "yes")
        self.decided(chain_sheet((5,) * 6, all_unlike("xyzuvw")), "no")

    def test_all_trees_left_out_but_one(self):
        trees = trees_in_order(BINARY, "tree", 7)
        for out in (None, 0, 3, len(trees) - 1):
            rows = [unlike("x", tree) for at, tree in enumerate(trees) if at != out]
            told = self.decided((BINARY, (("x", "tree", 8),), tuple(all_of(rows[at::3]) for at in range(3))), "no" if out is None else "yes")
            if out is not None:
                self.assertEqual(told, {"x": trees[out]})
        makers = [("d" + sign, ()) for sign in "abcd"]
        kinds = (("three", (("mk", ("d", "d", "d")),)), ("d", tuple(makers)))
        trees = [("mk",) + row for row in product([(maker,) for maker, _ in makers], repeat=3)]
        for out in (None, 17):
            rows = [unlike("x", tree) for at, tree in enumerate(trees) if at != out]
            told = self.decided((kinds, (("x", "three", None),), tuple(all_of(rows[at::6]) for at in range(6))), "no" if out is None else "yes")
            if out is not None:
                self.assertEqual(told, {"x": trees[17]})

    def test_alike_where_one_tree_has_the_size(self):
        for most in (1, 2, 7, 12):
            self.decided(chain_sheet((most, most), *exactly(0, (1, "x"), (-1, "y")), unlike("x", "y")), "no")
        self.decided((BINARY, (("x", "tree", 4), ("y", "tree", 4)), exactly(0, (1, "x"), (-1, "y")) + (unlike("x", "y"),)), "no")
        self.decided((BINARY, (("x", "tree", 5), ("y", "tree", 5)), exactly(0, (1, "x"), (-1, "y")) + (unlike("x", "y"),)), "yes")

    def test_what_is_told_of_eithers_already(self):
        """One of an either's two is told not to hold: so the other one is."""
        both = ("both", ("same", "x", LEAF), ("test", "leaf", "x"))
        nodes = [("node", "x", "u"), ("node", "y", "u"), ("node", LEAF, "u"), ("node", part(0, "x"), "u")]
        facts = (("test", "leaf", "x"), ("same", "y", "x"), unlike("v", "w"))
        for inner in (("either", ("test", "node", "x"), ("same", "x", ("node", "u", "u"))), ("both", ("same", "x", "x"), ("test", "node", "y")),
                      ("not", both), ("not", ("either", both, ("same", "v", "w"))), ("not", ("not", ("same", "v", "w"))), ("same", "w", "v"),
                      ("not", ("same", nodes[0], nodes[1])), ("not", ("same", nodes[1], nodes[2])), ("not", ("same", nodes[2], nodes[3])),
                      ("not", ("same", ("node", "v", nodes[0]), ("node", "v", nodes[1]))), ("same", LEAF, nodes[0]), ("same", nodes[0], "y"),
                      ("same", nodes[0], ("node", "x", ("node", "u", "u"))), ("not", ("same", "x", "y")), ("not", ("same", "u", "u")),
                      ("same", ("node", "v", "x"), ("node", "w", "x")), ("test", "leaf", nodes[2]), ("sum", (), -1), ("sum", ((1, LEAF),), 0)):
            for wanted in (("test", "node", "z"), ("both", ("test", "node", "z"), ("same", "u", "u"))):
                for either in (("either", inner, wanted), ("either", wanted, inner), ("not", ("both", ("not", inner), ("not", wanted)))):
                    told = self.decided(tree_sheet(*facts, either), "yes")
                    self.assertEqual(told["z"][0], "node", either)
                    self.decided(tree_sheet(either, *facts, ("test", "leaf", "z")), "no")
        # What holds for sure need be no case: each of these goes on without one.
        for inner in (("same", "x", "y"), ("test", "leaf", "y"), ("not", ("same", "v", "w")), ("not", ("test", "node", "y")), both,
                      ("either", ("test", "node", "x"), ("same", "x", "y")), ("same", nodes[0], nodes[1])):
            rows = facts + (("either", inner, ("test", "node", "z")),) * 5 + (("same", "u", ("node", "u", "u")),)
            self.assertEqual(length_of(self.decided(tree_sheet(*rows), "no")), 2)
            self.assertEqual(self.decided(tree_sheet(*rows[:-1]), "yes")["z"], LEAF)

    def test_what_does_not_matter_is_no_case(self):
        # The first nine cannot hold back what the last one tells.
        rows = [("either", ("test", "leaf", name), ("test", "node", part(0, name))) for name in "xyzuvwxyz"]
        paper = self.decided(tree_sheet(*rows, ("same", "x", ("node", "x", "x"))), "no")
        self.assertEqual(length_of(paper), 2)


class GreatTest(CheckedCase):

    def test_great_trees_alone(self):
        sheet = tree_sheet(("same", "x", doubled("y", 5)), ("same", "y", doubled("z", 5)), ("same", "z", doubled("u", 5)),
                           names=FREE[:4])
        told = decide(sheet)
        self.assertEqual(told[0], "yes")
        self.assertEqual(told[1], {"x": doubled(LEAF, 15), "y": doubled(LEAF, 10), "z": doubled(LEAF, 5), "u": LEAF})
        self.assertIs(shows(sheet, told), True)
        # With the tree next in size at the bottom there is still one of less than 10 ** 5.
        told = decide(tree_sheet(*sheet[2], unlike("u", LEAF), names=FREE[:4]))
        self.assertEqual(told[1]["u"], ("node", LEAF, LEAF))
        self.decided(tree_sheet(*sheet[2], unlike("x", doubled(part(0, "y"), 6)), names=FREE[:4]), "no")

    def test_small_trees_where_they_fit(self):
        rows = (("same", "y", doubled("z", 5)), ("same", "z", doubled("u", 5)), ("same", "u", doubled("v", 5)))
        for one, other in ((("same", "v", doubled("w", 5)), ("same", "y", "x")), (("same", "y", "x"), ("same", "v", doubled("w", 5)))):
            sheet = tree_sheet(("either", one, other), *rows)
            told = decide(sheet)
            self.assertLess(max(great_size(tree) for tree in told[1].values()), 10 ** 5)
            self.assertIs(shows(sheet, told), True)
        # The great one is told where the others are shut, first or last or both times.
        for one, other in product((("same", "v", doubled("w", 5)), ("same", "y", "u")), repeat=2):
            told = decide(tree_sheet(("either", one, other), ("either", ("sum", (), -1), ("sum", (), 0)), *rows))
            if one[1] == other[1] == "y":
                self.assertEqual(told[0], "no")
            else:
                self.assertEqual(great_size(told[1]["y"]), 2 ** 21 - 1)
        # Of the one that stands most often the least tree is told.
        for order in ("xyzu", "uzyx", "zuxy"):
            names = tuple((name, "tree", None) for name in order)
            sheet = tree_sheet(("same", "x", doubled("y", 7)), ("same", "y", doubled("z", 8)), unlike("z", "u"), names=names)
            self.assertEqual(decide(sheet)[1]["z"], LEAF, order)

    def test_no_deeper_than_need_be(self):
        rows = [unlike(chain_on(one, at), chain_on(other, its)) for one, other in combinations("xyzuvw", 2)
                for at in range(5) for its in range(5) if 0 in (at, its)]
        told = self.decided(chain_sheet((None,) * 6, *[all_of(rows[at::10]) for at in range(10)]), "yes", most=WIDE ** 9)
        self.assertLess(max(depth_of(tree) for tree in told.values()), 30)
        # Both ways one is as deep as ten times nine, another way not.
        deep = all_of(("same", one, chain_on(other, 7)) for one, other in zip("xyzuv", "yzuvw"))
        told = self.decided(chain_sheet((None,) * 6, deep), "yes")
        self.assertEqual(depth_of(told["x"]), 36)

    def test_deeper_than_two_hundred_where_none_else_fits(self):
        kinds = CHAIN + (("six", (("mk", ("chain", "chain", "chain")),)),)
        names = tuple((name, "six", None) for name in "xyzuvw")
        ends = [part(k, name, "mk") for name in "xyzuvw" for k in range(3)]
        links = [("same", one, chain_on(other, 7)) for one, other in zip(ends, ends[1:])]
        rows = tuple(all_of(links[at::5]) for at in range(5))
        told = self.decided((kinds, names, rows), "yes")
        self.assertEqual(depth_of(told["x"]), 7 * 17 + 2)
        # The last one is as deep as ten times eight besides, and all others as much deeper.
        rows = rows + (("same", ends[-1], chain_on("c", 9)), ("same", "c", chain_of(11)))
        names = names[:-1] + (("w", "six", None),)
        told = self.decided((kinds, names[1:] + (("c", "chain", None),), tuple(all_of(links[at + 3::5]) for at in range(5)) + rows[5:]), "yes")
        self.assertEqual(depth_of(told["y"]), 7 * 14 + 9 + 11 + 1)
        # Two roads: by the first one trees are deeper than two hundred.
        first = all_of([("same", part(0, "x", "mk"), chain_on("c", 9)), ("same", "c", chain_on("d", 9))])
        names = (("x", "six", None), ("c", "chain", None), ("d", "chain", None))
        told = self.decided((kinds, names, (("either", first, ("same", "c", "d")),)), "yes")
        self.assertLessEqual(max(depth_of(tree) for tree in told.values()), 200)

    def test_as_deep_and_as_long_as_may_be(self):
        deepest = chain_on("x", 11)
        self.decided(chain_sheet((None, None), ("same", deepest, "y"), unlike("x", "y")), "yes")
        self.decided(chain_sheet((None, None), ("same", deepest, "x")), "no")
        formula = ("same", "x", "x")
        for _ in range(11):
            formula = ("not", formula)
        self.decided(chain_sheet((None,), formula), "no")
        terms = [doubled(name, 6) for name in "xyz"]
        long = all_of(("same", ("node", terms[at % 3], LEAF), ("node", terms[(at + 1) % 3], "x")) for at in range(3))
        self.decided(tree_sheet(*[long] * 10), "yes")
        self.decided(tree_sheet(*[long] * 9, unlike("y", "z")), "no")
        sums = [("sum", tuple((9, doubled(name, 6)) for name in "xyz"), number) for number in (-500, 500)]
        names = tuple((name, "tree", 2) for name in "xyz")
        self.decided((BINARY, names, tuple(sums[1:])), "no")
        eithers = ("same", "x", "y")
        for at in range(8):
            eithers = ("either", eithers, ("same", "x", chain_on("x", 1)))
        self.decided(chain_sheet((None, None), eithers, unlike("x", "y")), "no", most=WIDTH)

    def test_many_that_must_be_unlike(self):
        trees = trees_in_order(BINARY, "tree", 9)
        rows = [unlike(name, tree) for name in "xyz" for tree in trees]
        told = self.decided(tree_sheet(*[all_of(rows[at::10]) for at in range(10)]), "yes")
        self.assertEqual(min(plain_size(told[name]) for name in "xyz"), 11)


class RandomTest(CheckedCase):

    def test_against_all_small_answers(self):
        chance = random.Random(91)
        seen = {"yes": 0, "no": 0}
        for _ in range(1500):
            sheet = random_sheet(chance, chance.choice(ALL_KINDS + (None, None)), names=3, formulas=4)
            told = decide(sheet, most=WIDE)
            seen[told[0]] += 1
            self.assertIs(shows(sheet, told), True, sheet)
            if told[0] == "yes":
                self.assertTrue(fits_plainly(sheet, told[1]), sheet)
            else:
                for answer in answers_to(sheet, 4, limit=40):
                    self.assertFalse(all(plain_holds(sheet, formula, answer) for formula in sheet[2]), (sheet, answer))
        self.assertGreater(min(seen.values()), 300, seen)

    def test_where_an_answer_is_planted(self):
        chance = random.Random(92)
        seen = {"yes": 0, "no": 0}
        for _ in range(700):
            sheet, planted = near_sheet(chance, chance.choice((BINARY, CHAIN, LISTS, DAYS, MIXED, LATER, None)), 4, 8)
            told = decide(sheet, most=WIDE)
            seen[told[0]] += 1
            self.assertIs(shows(sheet, told), True, sheet)
            if fits_plainly(sheet, planted):
                self.assertEqual(told[0], "yes", (sheet, planted))
            if told[0] == "yes":
                self.assertTrue(fits_plainly(sheet, told[1]), sheet)
        self.assertGreater(min(seen.values()), 30, seen)


class ShowsTest(CheckedCase):
    YES = tree_sheet(("same", "x", ("node", "y", "z")), names=(("x", "tree", 9), ("y", "tree", None), ("z", "tree", 3)))
    NO = tree_sheet(("either", ("same", "x", ("node", "x", "y")), ("test", "leaf", "x")), unlike("x", LEAF), names=FREE[:2])

    def test_any_answer_that_fits(self):
        told = decide(self.YES)
        self.assertIs(shows(self.YES, told), True)
        for answer in ({"x": ("node", LEAF, LEAF), "y": LEAF, "z": LEAF},
                       {"z": ("node", LEAF, LEAF), "y": LEAF, "x": ("node", LEAF, ("node", LEAF, LEAF))}):
            self.assertIs(shows(self.YES, ("yes", answer)), True)
        for answer in ({"x": LEAF, "y": LEAF, "z": LEAF}, {"x": ("node", LEAF, LEAF), "y": LEAF},
                       {"x": ("node", LEAF, LEAF), "y": LEAF, "z": LEAF, "u": LEAF}, {},
                       {"x": doubled(LEAF, 3), "y": doubled(LEAF, 2), "z": doubled(LEAF, 2)}):
            self.assertIs(shows(self.YES, ("yes", answer)), False)

    def test_bent_answers(self):
        answer = {"x": ("node", LEAF, ("node", LEAF, LEAF)), "y": LEAF, "z": ("node", LEAF, LEAF)}
        self.assertIs(shows(self.YES, ("yes", answer)), True)
        for name in answer:
            for other in spoiled_by_lists(answer[name]):
                self.assertIs(shows(self.YES, ("yes", {**answer, name: other})), False)
            for odd in NEVER + ("other", 17, LEAF * 2, ("node", LEAF)):
                for other in spoiled(answer[name], lambda inner: odd):
                    self.assertIs(shows(self.YES, ("yes", {**answer, name: other})), False, other)

    def test_bent_papers(self):
        told = decide(self.NO)
        self.assertEqual(told[0], "no")
        for other in spoiled_by_lists(told):
            self.assertIs(shows(self.NO, other), False, other)
        for odd in NEVER + ("other", 17, ("x", "x")):
            for other in spoiled(told, lambda inner: odd):
                self.assertIs(shows(self.NO, other), False, other)

    def test_of_anything(self):
        for sheet in (self.YES, self.NO):
            told = decide(sheet)
            for thing in NEVER + ((), told[:1], told + ((),), list(told), told[1], (None, told[1]), ([], told[1]), "yes", "no",
                                  ("yes",), ("no",), ("yes", None), ("no", None), ({"no": 1}, told[1]), ("yes", [told[1]]),
                                  ("yes" if told[0] == "no" else "no", told[1]), ("shut", told[1]), ("YES", told[1])):
                self.assertIs(shows(sheet, thing), False, thing)
        self.assertIs(shows(self.YES, decide(self.NO)), False)
        self.assertIs(shows(self.NO, decide(self.YES)), False)


class RefusalsTest(unittest.TestCase):

    def test_sheets(self):
        check_sheets_refused(self, decide, ())
        check_sheets_refused(self, width_of, ())
        check_sheets_refused(self, shows, (("yes", {}),), (None,), ([],))
        # What is refused of the sheet goes ahead of what is too wide.
        check_sheets_refused(self, lambda sheet: decide(sheet, most=0), ())

    def test_nothing_is_changed(self):
        for sheet in (ShowsTest.YES, ShowsTest.NO, SHEET):
            kept = copy.deepcopy(sheet)
            told = decide(sheet, most=WIDE)
            self.assertEqual(sheet, kept)
            again = copy.deepcopy(told)
            if told[0] == "yes":
                told[1].clear()
            self.assertEqual(decide(sheet, most=WIDE), again)
        odd = [["yes"], {"no": ()}]
        kept = copy.deepcopy(odd)
        self.assertIs(shows(SHEET, odd), False)
        self.assertIs(shows(SHEET, ("yes", odd)), False)
        self.assertEqual(odd, kept)


class InterfaceTest(unittest.TestCase):

    def test_names_and_arguments(self):
        for name, arguments in (("width_of", "(sheet)"), ("decide", "(sheet, *, most=2000)"), ("shows", "(sheet, thing)")):
            function = getattr(module, name)
            self.assertEqual(function.__module__, "madesure.decide.search")
            self.assertEqual(str(inspect.signature(function)), arguments)


if __name__ == "__main__":
    unittest.main()
