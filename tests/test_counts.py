import copy
import inspect
import random
import unittest
from math import comb

from madesure.errors import NoKind, NoKinds, NoNumber, NoTree
from madesure.kinds.kinds import is_kinds, least_size
from madesure.trees import counts as module
from madesure.trees.counts import MARKS, many_trees, number_of, sizes_of, tree_at
from madesure.trees.trees import is_ahead, is_tree, least_tree, size_of
from samples import (ALL_KINDS, BINARY, CHAIN, DAYS, GREAT, LATER, LEAF, LISTS, MIXED, NEVER, chain_of, check_refusals,
                     random_kinds, refusal, trees_of_size)

MILLION = 10 ** 6
# Of many makers and parts: sizes 2, 7, 12 ..
WIDE = tuple((kind, tuple((kind + sign, tuple(parts)) for sign, parts in
                          (("x", "abc"), ("y", "cde"), ("z", "eab"), ("w", ("mark",))))) for kind in "abcde")


def catalan(number):
    return comb(2 * number, number) // (number + 1)


class ManyTreesTest(unittest.TestCase):

    def test_by_hand(self):
        wanted = ((BINARY, "tree", 0, 1, 0), (BINARY, "tree", 1, 1, 1), (BINARY, "tree", 2, 1, 0),
                  (BINARY, "tree", 3, 1, 1), (BINARY, "tree", 5, 1, 2), (BINARY, "tree", 7, 1, 5),
                  (DAYS, "day", 1, 1, 4), (DAYS, "day", 2, 1, 0), (LISTS, "item", 2, 7, 8), (LISTS, "item", 2, 0, 1),
                  (MIXED, "lid", 1, 3, 1), (MIXED, "lid", 2, 3, 3), (LATER, "side", 2, 5, 10))
        for kinds, kind, size, marks, many in wanted:
            self.assertEqual(many_trees(kinds, kind, size, marks=marks), many, (kind, size, marks))

    def test_of_mark(self):
        for kinds in ALL_KINDS:
            for marks in (0, 1, 2, 10, MILLION):
                self.assertEqual(many_trees(kinds, "mark", 0, marks=marks), 0)
                self.assertEqual(many_trees(kinds, "mark", 1, marks=marks), marks)
                self.assertEqual(many_trees(kinds, "mark", 2, marks=marks), 0)
                self.assertEqual(many_trees(kinds, "mark", 200, marks=marks), 0)

    def test_marks_left_out(self):
        self.assertEqual(MARKS, 1)
        for kinds, kind in ((LISTS, "list"), (LISTS, "item"), (MIXED, "box"), (BINARY, "mark")):
            for size in range(8):
                self.assertEqual(many_trees(kinds, kind, size), many_trees(kinds, kind, size, marks=1))
                for number in range(many_trees(kinds, kind, size)):
                    tree = tree_at(kinds, kind, size, number)
                    self.assertEqual(tree, tree_at(kinds, kind, size, number, marks=1))
                    self.assertEqual(number_of(kinds, kind, tree), number)

    def test_great_ones(self):
        for number in range(100):
            self.assertEqual(many_trees(BINARY, "tree", 2 * number + 1), catalan(number))
            self.assertEqual(many_trees(BINARY, "tree", 2 * number), 0)
        for size in (1, 2, 199, 200):
            self.assertEqual(many_trees(CHAIN, "chain", size, marks=MILLION), 1)
        self.assertEqual(many_trees(GREAT, "c", 40, marks=MILLION), MILLION ** 27)
        self.assertEqual(many_trees(GREAT, "a", 200), 0)
        self.assertGreater(many_trees(WIDE, "a", 197, marks=MILLION), MILLION ** 80)

    def test_no_more_than_the_trees(self):
        for kinds in ALL_KINDS:
            for kind in [kind for kind, _ in kinds] + ["mark"]:
                for marks in (0, 1, 2, 3):
                    for size in range(8):
                        many = len(trees_of_size(kinds, kind, size, marks))
                        self.assertEqual(many_trees(kinds, kind, size, marks=marks), many, (kinds, kind, size, marks))


class TreeAtTest(unittest.TestCase):

    def check_all(self, kinds, kind, size, marks):
        trees = trees_of_size(kinds, kind, size, marks)
        self.assertEqual(many_trees(kinds, kind, size, marks=marks), len(trees))
        for number, tree in enumerate(trees):
            self.assertEqual(tree_at(kinds, kind, size, number, marks=marks), tree)
            self.assertEqual(number_of(kinds, kind, tree, marks=marks), number)
        error = refusal(lambda: tree_at(kinds, kind, size, len(trees), marks=marks))
        self.assertIs(type(error), NoNumber)
        self.assertEqual(error.number, len(trees))

    def test_all_small_trees_in_order(self):
        for kinds, kind, most in ((BINARY, "tree", 13), (LISTS, "list", 7), (LISTS, "item", 6), (MIXED, "box", 6),
                                  (MIXED, "lid", 3), (LATER, "late", 6), (DAYS, "day", 2), (CHAIN, "chain", 9)):
            for marks in (0, 1, 2):
                for size in range(most + 1):
                    self.check_all(kinds, kind, size, marks)

    def test_random_kinds(self):
        chance = random.Random(11)
        seen = 0
        for _ in range(150):
            kinds = random_kinds(chance)
            if is_kinds(kinds):
                for kind, _ in kinds:
                    for size in range(6):
                        if many_trees(kinds, kind, size, marks=2) < 150:
                            self.check_all(kinds, kind, size, 2)
                            seen += 1
        self.assertGreater(seen, 500)

    def test_the_first_and_the_last(self):
        for kinds, kind, size, marks in ((BINARY, "tree", 199, 1), (LISTS, "list", 199, MILLION), (LISTS, "item", 200, 3),
                                         (WIDE, "a", 197, MILLION), (MIXED, "box", 200, 2), (CHAIN, "chain", 200, 1)):
            many = many_trees(kinds, kind, size, marks=marks)
            before = None
            for number in sorted({0, 1 % many, many // 3, many // 2, many - 2 if many > 1 else 0, many - 1}):
                tree = tree_at(kinds, kind, size, number, marks=marks)
                self.assertIs(is_tree(kinds, kind, tree), True)
                self.assertEqual(size_of(kinds, kind, tree), size)
                self.assertEqual(number_of(kinds, kind, tree, marks=marks), number)
                if before is not None:
                    self.assertIs(is_ahead(kinds, kind, before, tree), True)
                before = tree
            for number in (many, many + 1, -1):
                self.assertIs(type(refusal(lambda: tree_at(kinds, kind, size, number, marks=marks))), NoNumber)

    def test_marks_by_number(self):
        self.assertEqual(tree_at(BINARY, "mark", 1, 0), 0)
        self.assertEqual(tree_at(BINARY, "mark", 1, 999999, marks=MILLION), 999999)
        self.assertEqual(number_of(BINARY, "mark", 999999, marks=MILLION), 999999)
        self.assertEqual(tree_at(LISTS, "item", 2, 41, marks=50), ("count", 41))
        self.assertEqual(tree_at(LISTS, "item", 2, 50, marks=50), ("sub", ("nil",)))

    def test_first_of_the_least_size_is_the_least_tree(self):
        for kinds in ALL_KINDS:
            for kind, _ in kinds:
                size = least_size(kinds, kind)
                if size <= 200:
                    self.assertEqual(tree_at(kinds, kind, size, 0), least_tree(kinds, kind))
                    self.assertEqual(many_trees(kinds, kind, size - 1), 0)

    def test_sizes_with_no_tree(self):
        for kinds, kind, size in ((BINARY, "tree", 0), (BINARY, "tree", 2), (BINARY, "tree", 200), (DAYS, "day", 2),
                                  (BINARY, "mark", 0), (BINARY, "mark", 2), (GREAT, "e", 3)):
            self.assertEqual(many_trees(kinds, kind, size), 0)
            error = refusal(tree_at, kinds, kind, size, 0)
            self.assertIs(type(error), NoNumber)
            self.assertEqual(error.number, 0)

    def test_a_told_tree_above_size_200(self):
        self.assertEqual(number_of(GREAT, "a", least_tree(GREAT, "a")), 0)
        self.assertEqual(number_of(CHAIN, "chain", chain_of(300)), 0)


class NotSoMarkedTest(unittest.TestCase):

    def test_marks_that_are_not_less(self):
        for marks in (0, 1, 5):
            for tree in (("count", marks), ("pair", ("count", 0), ("count", marks + 3))):
                self.assertIs(type(refusal(lambda: number_of(LISTS, "item", tree, marks=marks))), NoTree)
            self.assertIs(type(refusal(lambda: number_of(BINARY, "mark", marks, marks=marks))), NoTree)
            if marks:
                self.assertEqual(number_of(BINARY, "mark", marks - 1, marks=marks), marks - 1)
        self.assertIs(type(refusal(number_of, LISTS, "item", ("count", 1))), NoTree)
        self.assertIs(type(refusal(lambda: number_of(LISTS, "item", ("count", MILLION), marks=MILLION))), NoTree)
        self.assertEqual(number_of(LISTS, "list", ("nil",), marks=0), 0)

    def test_ahead_of_marks_that_there_are_not(self):
        # No marks at all would let this mark be, so the tree goes first.
        for marks in (-1, True, None, MILLION + 1, "1"):
            error = refusal(lambda: number_of(BINARY, "mark", 10 ** 39, marks=marks))
            self.assertIs(type(error), NoTree)
            error = refusal(lambda: number_of(BINARY, "mark", 7, marks=marks))
            self.assertIs(type(error), NoNumber)
            self.assertIs(error.number, marks)


class SizesTest(unittest.TestCase):

    def test_by_hand(self):
        self.assertEqual(sizes_of(BINARY, "tree"), tuple(range(1, 40, 2)))
        self.assertEqual(sizes_of(CHAIN, "chain"), tuple(range(1, 41)))
        self.assertEqual(sizes_of(DAYS, "day"), (1,))
        self.assertEqual(sizes_of(DAYS, "mark"), (1,))
        self.assertEqual(sizes_of(LATER, "late"), (1, 3, 5))
        self.assertEqual(sizes_of(GREAT, "d", most=200), (13,))
        self.assertEqual(sizes_of(GREAT, "a", most=200), ())
        self.assertEqual(sizes_of(WIDE, "c", most=30), (2, 7, 12, 17, 22, 27))

    def test_most(self):
        for most in (0, 1, 2, 3, 39, 40, 41, 199, 200):
            self.assertEqual(sizes_of(BINARY, "tree", most=most), tuple(range(1, most + 1, 2)))
            self.assertEqual(sizes_of(BINARY, "mark", most=most), (1,) if most else ())
        self.assertEqual(sizes_of(BINARY, "tree", most=0), ())

    def test_just_the_sizes_of_trees(self):
        chance = random.Random(5)
        rows = [kinds for kinds in [random_kinds(chance) for _ in range(60)] if is_kinds(kinds)]
        self.assertGreater(len(rows), 15)
        for kinds in rows + list(ALL_KINDS):
            for kind in [kind for kind, _ in kinds] + ["mark"]:
                sizes = [size for size in range(41) if many_trees(kinds, kind, size)]
                self.assertEqual(sizes_of(kinds, kind), tuple(sizes), (kinds, kind))
                for most in (0, 1, 7, 40):
                    wanted = tuple(size for size in sizes if size <= most)
                    self.assertEqual(sizes_of(kinds, kind, most=most), wanted, (kinds, kind))

    def test_three_parts(self):
        kinds = (("k", (("three", ("k", "l", "k")), ("end", ()))), ("l", (("far", ("mark", "mark", "mark")),)))
        for most in (12, 200):
            wanted = [size for size in range(most + 1) if many_trees(kinds, "k", size)]
            self.assertEqual(sizes_of(kinds, "k", most=most), tuple(wanted))


class RefusalsTest(unittest.TestCase):
    NO_KINDS = tuple((thing, NoKinds) for thing in NEVER + ((), BINARY[0], list(BINARY), dict(BINARY)))
    NO_KIND = tuple((thing, NoKind) for thing in NEVER + ("leaf", "node", "item", 0, ("tree",)))
    NO_SIZE = tuple((thing, NoNumber) for thing in NEVER + (201, -10 ** 39, 10 ** 39, "5", (5,), [5]))
    NO_NUMBER = tuple((thing, NoNumber) for thing in NEVER + (2, 3, 10 ** 39, "1", (1,), [1], chain_of(5000)))
    NO_MARKS = tuple((thing, NoNumber) for thing in NEVER + (MILLION + 1, 10 ** 39, "1", (1,), [1]))
    NO_TREE = tuple((thing, NoTree) for thing in NEVER + (0, "leaf", (), ("nil",), ["leaf"], ("leaf", LEAF)))

    def test_refusals(self):
        check_refusals(self, lambda kinds, kind, size, marks: many_trees(kinds, kind, size, marks=marks),
                       (BINARY, "tree", 5, 1), (self.NO_KINDS, self.NO_KIND, self.NO_SIZE, self.NO_MARKS))
        check_refusals(self, lambda kinds, kind, size, number, marks: tree_at(kinds, kind, size, number, marks=marks),
                       (BINARY, "tree", 5, 1, 1),
                       (self.NO_KINDS, self.NO_KIND, self.NO_SIZE, self.NO_NUMBER, self.NO_MARKS))
        check_refusals(self, lambda kinds, kind, tree, marks: number_of(kinds, kind, tree, marks=marks),
                       (BINARY, "tree", LEAF, 1), (self.NO_KINDS, self.NO_KIND, self.NO_TREE, self.NO_MARKS))
        check_refusals(self, lambda kinds, kind, most: sizes_of(kinds, kind, most=most),
                       (BINARY, "tree", 5), (self.NO_KINDS, self.NO_KIND, self.NO_SIZE))

    def test_the_greatest_numbers_and_one_more(self):
        self.assertEqual(many_trees(BINARY, "tree", 199, marks=MILLION), catalan(99))
        self.assertEqual(refusal(many_trees, BINARY, "tree", 201).number, 201)
        self.assertEqual(refusal(lambda: many_trees(BINARY, "tree", 5, marks=MILLION + 1)).number, MILLION + 1)
        self.assertEqual(refusal(lambda: sizes_of(BINARY, "tree", most=201)).number, 201)
        self.assertEqual(refusal(tree_at, BINARY, "tree", 201, 0).number, 201)

    def test_a_number_that_only_other_marks_have(self):
        # Of more marks there would be this number: so the marks are what there isn't.
        error = refusal(lambda: tree_at(BINARY, "mark", 1, 7, marks=-1))
        self.assertEqual(error.number, -1)
        error = refusal(lambda: tree_at(BINARY, "mark", 1, 10 ** 39, marks=-1))
        self.assertEqual(error.number, 10 ** 39)
        self.assertEqual(refusal(lambda: tree_at(BINARY, "mark", 1, 7, marks=7)).number, 7)

    def test_nothing_is_changed(self):
        odd = [["tree"], {"tree": ()}]
        kept = copy.deepcopy(odd)
        for args in ((odd, odd, odd), (BINARY, odd, odd), (BINARY, "tree", odd)):
            self.assertIsNotNone(refusal(many_trees, *args))
            self.assertIsNotNone(refusal(tree_at, *args, odd))
            self.assertIsNotNone(refusal(number_of, *args))
        self.assertIs(refusal(tree_at, BINARY, "tree", odd, odd).number, odd)
        self.assertEqual(odd, kept)
        self.assertEqual(many_trees(LISTS, "list", 12, marks=3), many_trees(LISTS, "list", 12, marks=3))


class InterfaceTest(unittest.TestCase):

    def test_names_and_arguments(self):
        wanted = {"many_trees": "(kinds, kind, size, *, marks=1)",
                  "tree_at": "(kinds, kind, size, number, *, marks=1)",
                  "number_of": "(kinds, kind, tree, *, marks=1)", "sizes_of": "(kinds, kind, *, most=40)"}
        for name, arguments in wanted.items():
            function = getattr(module, name)
            self.assertEqual(function.__module__, "madesure.trees.counts")
            self.assertEqual(str(inspect.signature(function)), arguments)

    def test_kinds_of_values(self):
        self.assertIs(type(many_trees(BINARY, "tree", 5)), int)
        self.assertIs(type(number_of(BINARY, "tree", LEAF)), int)
        self.assertIs(type(tree_at(BINARY, "mark", 1, 0)), int)
        self.assertIs(type(sizes_of(BINARY, "tree")), tuple)


if __name__ == "__main__":
    unittest.main()
