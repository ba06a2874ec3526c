import copy
import inspect
import random
import unittest

from madesure.errors import NoKind, NoKinds, NoMaker, NoNumber, NoTree
from madesure.trees import trees as module
from madesure.trees.trees import is_ahead, is_tree, least_tree, part_of, size_of
from madesure.kinds.kinds import is_kinds, least_size
from samples import (ALL_KINDS, BINARY, CHAIN, DAYS, GREAT, LATER, LEAF, LISTS, MIXED, NEVER, chain_of, check_refusals,
                     plain_size, random_kinds, refusal, spoiled, spoiled_by_lists, trees_in_order)

NUMBERS = (0, 1, 2, 7, 40, 10 ** 39, 10 ** 60)
GREAT_SIZES = (("e", 4), ("d", 13), ("c", 40), ("b", 121), ("a", 364))
FULL = ("cons", ("pair", ("count", 3), ("sub", ("cons", ("count", 10 ** 39), ("nil",)))), ("nil",))


def full_tree(depth):
    return ("node", full_tree(depth - 1), full_tree(depth - 1)) if depth else LEAF


def comb(length, right):
    """A tree of BINARY that leans to one side, of size 2 * length + 1."""
    tree = LEAF
    for _ in range(length):
        tree = ("node", LEAF, tree) if right else ("node", tree, LEAF)
    return tree


def samples():
    """Kinds, a kind and a tree of it."""
    return ((BINARY, "tree", LEAF), (BINARY, "tree", ("node", ("node", LEAF, LEAF), LEAF)), (LISTS, "list", FULL),
            (LISTS, "item", FULL[1]), (MIXED, "box", ("wrap", ("tagged", 5), 0, ("bare", ("plain",)))),
            (DAYS, "day", ("thu",)), (CHAIN, "chain", chain_of(8)))


class IsTreeTest(unittest.TestCase):

    def test_trees(self):
        for kinds, kind, tree in samples():
            self.assertIs(is_tree(kinds, kind, tree), True, tree)

    def test_marks(self):
        for kinds in ALL_KINDS:
            for mark in NUMBERS:
                self.assertIs(is_tree(kinds, "mark", mark), True, mark)
            for thing in (-1, -10 ** 39, True, False, None, "", "0", "mark", (), (0,), [], [0], {}, ("mark", 0), LEAF):
                self.assertIs(is_tree(kinds, "mark", thing), False, thing)

    def test_marks_in_trees(self):
        for mark in NUMBERS:
            self.assertIs(is_tree(LISTS, "item", ("count", mark)), True, mark)
        for thing in (-1, -10 ** 39, True, False, None, "0", (), (0,), [0], {}, ("count", 0), ("nil",)):
            self.assertIs(is_tree(LISTS, "item", ("count", thing)), False, thing)
            self.assertIs(is_tree(LISTS, "list", ("cons", ("count", thing), ("nil",))), False, thing)

    def test_a_part_more_or_fewer(self):
        for thing in (("leaf", LEAF), ("leaf", ()), ("node",), ("node", LEAF), ("node", LEAF, LEAF, LEAF), ()):
            self.assertIs(is_tree(BINARY, "tree", thing), False, thing)
            self.assertIs(is_tree(BINARY, "tree", ("node", LEAF, thing)), False, thing)
            self.assertIs(is_tree(BINARY, "tree", ("node", ("node", thing, LEAF), LEAF)), False, thing)
        for thing in (("count",), ("count", 1, 2), ("plain", 0)):
            self.assertIs(is_tree(LISTS, "item", thing), False, thing)

    def test_of_another_kind(self):
        self.assertIs(is_tree(LISTS, "item", ("nil",)), False)
        self.assertIs(is_tree(LISTS, "list", ("count", 0)), False)
        self.assertIs(is_tree(LISTS, "list", ("cons", ("nil",), ("nil",))), False)
        self.assertIs(is_tree(LISTS, "list", ("cons", ("count", 0), ("count", 0))), False)
        self.assertIs(is_tree(LISTS, "list", ("pair", ("count", 0), ("nil",))), False)
        self.assertIs(is_tree(LISTS, "item", ("pair", ("count", 0), 0)), False)
        self.assertIs(is_tree(LISTS, "item", 0), False)
        self.assertIs(is_tree(LISTS, "mark", ("count", 0)), False)
        self.assertIs(is_tree(MIXED, "box", ("wrap", 0, ("plain",), ("void", ("plain",)))), False)

    def test_other_makers(self):
        for maker in ("", "Leaf", "leaf ", "tree", "mark", "other", 0, None, True, [], {}, (), ("leaf",)):
            self.assertIs(is_tree(BINARY, "tree", (maker,)), False, maker)
            self.assertIs(is_tree(BINARY, "tree", ("node", (maker,), LEAF)), False, maker)
            self.assertIs(is_tree(BINARY, "tree", ("node", LEAF, (maker, LEAF, LEAF))), False, maker)
        for thing in ("leaf", "tree", 0, "mark"):
            self.assertIs(is_tree(BINARY, "tree", thing), False, thing)

    def test_lists_in_the_place_of_tuples(self):
        for kinds, kind, tree in samples():
            others = spoiled_by_lists(tree)
            self.assertGreater(len(others), 0)
            for other in others:
                self.assertIs(is_tree(kinds, kind, other), False, other)

    def test_odd_things_in_the_place_of_anything(self):
        for odd in NEVER + ("other", "mark", "item", (), ("mark", 0), {"leaf": ()}):
            for kinds, kind, tree in samples():
                for other in spoiled(tree, lambda inner: odd):
                    self.assertIs(is_tree(kinds, kind, other), False, other)

    def test_to_size_200_and_deep_ones(self):
        for length in (1, 2, 199, 200, 201, 5000, 100000):
            tree = chain_of(length)
            self.assertIs(is_tree(CHAIN, "chain", tree), True, length)
            self.assertEqual(size_of(CHAIN, "chain", tree), length)
        for right in (True, False):
            for length in (99, 100, 20000):
                self.assertIs(is_tree(BINARY, "tree", comb(length, right)), True)
                self.assertEqual(size_of(BINARY, "tree", comb(length, right)), 2 * length + 1)
        self.assertIs(is_tree(BINARY, "tree", full_tree(6)), True)

    def test_deep_ones_with_one_part_otherwise(self):
        for odd in (["end"], ("end", ()), ("stop",), (), None, True, 0, ("end", ("end",)), ("next",)):
            for length in (100, 199, 5000):
                tree = odd
                for _ in range(length):
                    tree = ("next", tree)
                self.assertIs(is_tree(CHAIN, "chain", tree), False, (odd, length))
                self.assertIs(type(refusal(size_of, CHAIN, "chain", tree)), NoTree)

    def test_just_the_trees_of_small_things(self):
        things = [LEAF, ("node",), (), "leaf", 0, ("leaf", LEAF)]
        rows = [("node", first, second) for first in things for second in things]
        rows += [("node", first, second) for first in rows for second in things]
        told = [thing for thing in things + rows if is_tree(BINARY, "tree", thing)]
        self.assertEqual(told, [LEAF, ("node", LEAF, LEAF), ("node", ("node", LEAF, LEAF), LEAF)])


class SizesTest(unittest.TestCase):

    def test_size_of(self):
        wanted = ((BINARY, "tree", LEAF, 1), (BINARY, "tree", full_tree(6), 127), (LISTS, "item", ("count", 9), 2),
                  (LISTS, "list", FULL, 10), (DAYS, "day", ("wed",), 1),
                  (MIXED, "box", ("wrap", ("tagged", 5), 0, ("bare", ("plain",))), 6))
        for kinds, kind, tree, size in wanted:
            self.assertEqual(size_of(kinds, kind, tree), size, tree)

    def test_size_of_marks(self):
        for kinds in ALL_KINDS:
            for mark in NUMBERS:
                self.assertEqual(size_of(kinds, "mark", mark), 1)

    def test_size_of_all_small_trees(self):
        for kinds, kind in ((BINARY, "tree"), (LISTS, "list"), (LISTS, "item"), (MIXED, "box")):
            for tree in trees_in_order(kinds, kind, 7):
                self.assertEqual(size_of(kinds, kind, tree), plain_size(tree))


class LeastTest(unittest.TestCase):

    def test_least_trees(self):
        wanted = ((BINARY, "tree", LEAF), (CHAIN, "chain", ("end",)), (LISTS, "list", ("nil",)),
                  (LISTS, "item", ("count", 0)), (DAYS, "day", ("mon",)), (MIXED, "box", ("bare", ("plain",))),
                  (MIXED, "lid", ("plain",)), (LATER, "late", ("short",)), (LATER, "side", ("turn", 0)))
        for kinds, kind, tree in wanted:
            self.assertEqual(least_tree(kinds, kind), tree)
        for kinds in ALL_KINDS:
            self.assertEqual(least_tree(kinds, "mark"), 0)
            self.assertIs(type(least_tree(kinds, "mark")), int)

    def test_two_makers_of_the_least_size(self):
        makers = (("first", ("mark", "l")), ("second", ("l", "mark")), ("third", ("mark", "mark", "mark")))
        for turned in (makers, makers[::-1], makers[1:] + makers[:1]):
            kinds = (("k", turned), ("l", (("far", ("mark",)), ("near", ("mark",)))))
            near = {"first": ("first", 0, ("far", 0)), "second": ("second", ("far", 0), 0),
                    "third": ("third", 0, 0, 0)}
            self.assertEqual(least_tree(kinds, "k"), near[turned[0][0]])

    def test_a_maker_behind_has_the_smaller_one(self):
        kinds = (("k", (("wide", ("l", "l")), ("round", ("k",)), ("slim", ("l",)), ("also", ("l",)))),
                 ("l", (("far", ("mark", "mark")), ("near", ("mark",)))))
        self.assertEqual(least_tree(kinds, "k"), ("slim", ("near", 0)))
        self.assertEqual(least_tree(kinds, "l"), ("near", 0))

    def test_great_ones(self):
        for kinds in (GREAT, GREAT[::-1]):
            wanted = 0
            for (kind, size), inner in zip(GREAT_SIZES, ("mark", "e", "d", "c", "b")):
                wanted = ("f" + kind, wanted, wanted, wanted)
                told = least_tree(kinds, kind)
                self.assertEqual(told, wanted)
                self.assertEqual(size_of(kinds, kind, told), size)
                self.assertIs(is_tree(kinds, kind, told), True)
                self.assertIs(is_tree(kinds, inner, told), False)
                self.assertIs(is_ahead(kinds, kind, told, told), False)
                self.assertEqual(part_of(kinds, "f" + kind, 2, told), least_tree(kinds, inner))

    def test_first_in_order(self):
        for kinds in ALL_KINDS[:-1]:
            for kind, _ in kinds:
                self.assertEqual(least_tree(kinds, kind), trees_in_order(kinds, kind, 4)[0])

    def test_first_in_order_of_random_kinds(self):
        chance = random.Random(6)
        seen = 0
        for _ in range(300):
            kinds = random_kinds(chance)
            if is_kinds(kinds):
                for kind, _ in kinds:
                    size = least_size(kinds, kind)
                    told = least_tree(kinds, kind)
                    self.assertIs(is_tree(kinds, kind, told), True)
                    self.assertEqual(plain_size(told), size)
                    if size < 7:
                        self.assertEqual(told, trees_in_order(kinds, kind, size, 1)[0], kinds)
                        seen += 1
        self.assertGreater(seen, 100)


class OrderTest(unittest.TestCase):

    def check_order(self, kinds, kind, trees):
        for at, tree in enumerate(trees):
            for behind, other in enumerate(trees):
                self.assertIs(is_ahead(kinds, kind, tree, other), at < behind, (tree, other))

    def test_by_size(self):
        self.check_order(CHAIN, "chain", [chain_of(length) for length in range(1, 12)])
        # The maker that stands first makes the greater ones.
        self.check_order(BINARY, "tree", [LEAF, ("node", LEAF, LEAF)])
        self.check_order(LISTS, "list", [("nil",), ("cons", ("count", 9), ("nil",))])
        self.check_order(MIXED, "box", [("void", ("plain",)), ("bare", ("tagged", 0)), ("void", ("tagged", 0))])

    def test_by_makers_as_they_stand(self):
        self.check_order(DAYS, "day", [("mon",), ("tue",), ("wed",), ("thu",)])
        self.check_order(LATER, "late", [("short",), ("brief",)])
        turned = (("day", DAYS[0][1][::-1]),)
        self.check_order(turned, "day", [("thu",), ("wed",), ("tue",), ("mon",)])
        # Of one size, the maker goes ahead of all parts.
        self.check_order(MIXED, "box", [("bare", ("tagged", 9)), ("void", ("tagged", 0))])
        self.check_order(LATER, "side", [("turn", 9), ("over", 0)])

    def test_by_parts_from_the_left(self):
        two = ("node", LEAF, LEAF)
        self.check_order(BINARY, "tree", [("node", LEAF, ("node", LEAF, two)), ("node", LEAF, ("node", two, LEAF)),
                                          ("node", two, two), ("node", ("node", LEAF, two), LEAF),
                                          ("node", ("node", two, LEAF), LEAF)])
        self.check_order(LISTS, "item", [("pair", ("count", 1), ("count", 0)), ("pair", ("count", 1), ("count", 7)),
                                         ("pair", ("count", 2), ("count", 0))])
        # The size of a left part goes ahead of its maker, though that stands behind.
        self.check_order(MIXED, "box", [("wrap", ("plain",), 0, ("bare", ("tagged", 0))),
                                        ("wrap", ("tagged", 0), 0, ("bare", ("plain",)))])
        kinds = (("k", (("two", ("l", "l")),)), ("l", (("far", ("mark", "mark")), ("near", ("mark",)))))
        self.check_order(kinds, "k", [("two", ("near", 5), ("far", 0, 0)), ("two", ("far", 0, 0), ("near", 5))])

    def test_marks_as_numbers(self):
        for kinds in ALL_KINDS:
            self.check_order(kinds, "mark", [0, 1, 2, 9, 10, 11, 99, 100, 10 ** 39, 10 ** 39 + 1, 10 ** 60])
        self.check_order(LISTS, "item", [("count", mark) for mark in (0, 2, 9, 10, 100, 10 ** 39)])

    def test_all_small_trees(self):
        for kinds, kind, most in ((BINARY, "tree", 9), (LISTS, "list", 6), (LISTS, "item", 6), (MIXED, "box", 6),
                                  (LATER, "late", 5), (CHAIN, "chain", 9), (DAYS, "day", 9)):
            trees = trees_in_order(kinds, kind, most)
            self.assertGreater(len(trees), 3)
            self.check_order(kinds, kind, trees[:120])

    def test_deep_ones(self):
        right, left = comb(20000, True), comb(20000, False)
        self.check_order(BINARY, "tree", [right, left])
        self.check_order(CHAIN, "chain", [chain_of(30000), chain_of(30001)])
        kinds = (("k", (("more", ("k",)), ("end", ("mark",)))),)
        low, high = ("end", 3), ("end", 4)
        for _ in range(20000):
            low, high = ("more", low), ("more", high)
        self.check_order(kinds, "k", [low, high])

    def test_great_ones(self):
        low = ("fe", 0, 0, 1)
        high = ("fe", 0, 1, 0)
        for maker, inner in (("fd", "e"), ("fc", "d"), ("fb", "c"), ("fa", "b")):
            low, high = (maker, least_tree(GREAT, inner), low, high), (maker, least_tree(GREAT, inner), high, low)
        self.check_order(GREAT, "a", [least_tree(GREAT, "a"), low, high])


class PartTest(unittest.TestCase):

    def test_by_the_maker(self):
        two = ("node", LEAF, LEAF)
        self.assertEqual(part_of(BINARY, "node", 0, ("node", two, LEAF)), two)
        self.assertEqual(part_of(BINARY, "node", 1, ("node", two, LEAF)), LEAF)
        box = ("wrap", ("tagged", 5), 6, ("bare", ("tagged", 8)))
        for k in range(3):
            self.assertEqual(part_of(MIXED, "wrap", k, box), box[k + 1])
        self.assertEqual(part_of(MIXED, "bare", 0, ("bare", ("tagged", 8))), ("tagged", 8))
        self.assertEqual(part_of(LISTS, "count", 0, ("count", 12)), 12)
        self.assertEqual(part_of(CHAIN, "next", 0, chain_of(30000))[0], "next")

    def test_by_another_maker(self):
        self.assertEqual(part_of(BINARY, "node", 0, LEAF), LEAF)
        self.assertEqual(part_of(LISTS, "cons", 0, ("nil",)), ("count", 0))
        self.assertEqual(part_of(LISTS, "cons", 1, ("nil",)), ("nil",))
        self.assertEqual(part_of(LISTS, "count", 0, ("sub", ("nil",))), 0)
        self.assertEqual(part_of(LISTS, "sub", 0, ("count", 5)), ("nil",))
        self.assertEqual(part_of(LISTS, "pair", 1, ("sub", FULL)), ("count", 0))
        # Two makers of like parts are not the same one.
        self.assertEqual(part_of(MIXED, "void", 0, ("bare", ("tagged", 8))), ("plain",))
        self.assertEqual(part_of(MIXED, "wrap", 0, ("bare", ("tagged", 8))), ("plain",))
        self.assertEqual(part_of(MIXED, "wrap", 1, ("bare", ("tagged", 8))), 0)
        self.assertEqual(part_of(MIXED, "wrap", 2, ("bare", ("tagged", 8))), ("bare", ("plain",)))
        self.assertEqual(part_of(LATER, "long", 1, ("short",)), ("turn", 0))

    def test_numbers_that_there_are_not(self):
        deep = chain_of(5000)
        for k in (2, 3, -1, -2, 10 ** 39, True, False, None, "0", "", [], [0], {}, (), (0,), deep):
            error = refusal(part_of, BINARY, "node", k, LEAF)
            self.assertIs(type(error), NoNumber)
            self.assertIs(error.number, k)
            self.assertIs(type(refusal(part_of, BINARY, "node", k, "no tree")), NoNumber)
            self.assertIs(type(refusal(part_of, BINARY, "nodes", k, LEAF)), NoMaker)
            self.assertIs(type(refusal(part_of, BINARY, "leaf", k, LEAF)), NoNumber)
        self.assertIs(type(refusal(part_of, BINARY, "leaf", 0, LEAF)), NoNumber)
        for maker, many in (("wrap", 3), ("bare", 1), ("plain", 0), ("tagged", 1)):
            self.assertEqual(refusal(part_of, MIXED, maker, many, None).number, many)
            for k in range(many):
                self.assertIs(type(refusal(part_of, MIXED, maker, k, None)), NoTree)

    def test_trees_of_another_kind_than_the_makers(self):
        self.assertIs(type(refusal(part_of, LISTS, "cons", 0, ("count", 0))), NoTree)
        self.assertIs(type(refusal(part_of, LISTS, "count", 0, ("nil",))), NoTree)
        self.assertIs(type(refusal(part_of, LISTS, "count", 0, 0)), NoTree)


class RefusalsTest(unittest.TestCase):
    NO_KINDS = tuple((thing, NoKinds) for thing in NEVER + ((), BINARY[0], list(BINARY), dict(BINARY), BINARY * 2))
    NO_KIND = tuple((thing, NoKind) for thing in NEVER + ("leaf", "node", "item", "part", 0, ("tree",)))
    NO_MAKER = tuple((thing, NoMaker) for thing in NEVER + ("tree", "mark", "nil", "part", 0, ("leaf",)))
    NO_NUMBER = tuple((thing, NoNumber) for thing in NEVER + (2, 10 ** 39, "0", (), (0,), [0]))
    NO_TREE = tuple((thing, NoTree) for thing in NEVER + (0, "leaf", (), ("nil",), ["leaf"], ("leaf", LEAF)))

    def test_refusals(self):
        check_refusals(self, is_tree, (BINARY, "tree", LEAF), (self.NO_KINDS, self.NO_KIND, ()))
        check_refusals(self, size_of, (BINARY, "tree", LEAF), (self.NO_KINDS, self.NO_KIND, self.NO_TREE))
        check_refusals(self, least_tree, (BINARY, "tree"), (self.NO_KINDS, self.NO_KIND))
        check_refusals(self, is_ahead, (BINARY, "tree", LEAF, LEAF),
                       (self.NO_KINDS, self.NO_KIND, self.NO_TREE, self.NO_TREE))
        check_refusals(self, part_of, (BINARY, "node", 1, LEAF),
                       (self.NO_KINDS, self.NO_MAKER, self.NO_NUMBER, self.NO_TREE))

    def test_refused_with_anything_last(self):
        for thing in NEVER + (LEAF, 0):
            self.assertIs(type(refusal(is_tree, None, "tree", thing)), NoKinds)
            self.assertIs(type(refusal(is_tree, BINARY, "leaf", thing)), NoKind)

    def test_is_ahead_refuses_what_is_no_tree_or_of_another_kind(self):
        self.assertIs(type(refusal(is_ahead, LISTS, "list", ("nil",), ("count", 0))), NoTree)
        self.assertIs(type(refusal(is_ahead, LISTS, "list", ("count", 0), ("nil",))), NoTree)
        for thing in (-1, True, None, LEAF):
            self.assertIs(type(refusal(is_ahead, BINARY, "mark", 0, thing)), NoTree)
            self.assertIs(type(refusal(is_ahead, BINARY, "mark", thing, 0)), NoTree)
            self.assertIs(type(refusal(size_of, BINARY, "mark", thing)), NoTree)

    def test_nothing_is_changed_and_the_same_is_told_again(self):
        odd = ["node", ["leaf"], {"leaf": [LEAF]}]
        kept = copy.deepcopy(odd)
        self.assertIs(is_tree(BINARY, "tree", odd), False)
        for args in ((BINARY, "tree", odd), (BINARY, odd, odd), (odd, odd, odd)):
            self.assertIsNotNone(refusal(size_of, *args))
            self.assertIsNotNone(refusal(is_ahead, *args, odd))
            self.assertIsNotNone(refusal(part_of, *args, odd))
        self.assertIs(refusal(part_of, BINARY, "node", odd, odd).number, odd)
        self.assertEqual(odd, kept)
        for function, args in ((is_tree, (LISTS, "list", FULL)), (size_of, (LISTS, "list", FULL)),
                               (least_tree, (LISTS, "item")), (is_ahead, (LISTS, "list", ("nil",), FULL)),
                               (part_of, (LISTS, "cons", 0, FULL)), (part_of, (LISTS, "cons", 0, ("nil",)))):
            kept = copy.deepcopy(args)
            told = function(*args)
            refusal(function, *args[:-1], odd)
            self.assertEqual(function(*args), told)
            self.assertEqual(args, kept)


class InterfaceTest(unittest.TestCase):

    def test_names_and_arguments(self):
        wanted = {"is_tree": ["kinds", "kind", "thing"], "size_of": ["kinds", "kind", "tree"],
                  "least_tree": ["kinds", "kind"], "is_ahead": ["kinds", "kind", "tree", "other"],
                  "part_of": ["kinds", "maker", "k", "tree"]}
        for name, arguments in wanted.items():
            function = getattr(module, name)
            self.assertEqual(function.__module__, "madesure.trees.trees")
            self.assertEqual(list(inspect.signature(function).parameters), arguments)


if __name__ == "__main__":
    unittest.main()
