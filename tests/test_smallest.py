"""The trees that are put where any would do: by rising size, and as they are looked at by number."""

import random
import unittest

from madesure.kinds.kinds import is_finite, is_kinds
from madesure.trees.smallest import Smallest, counts_of, ranges_of
from madesure.trees.worths import Worths
from samples import ALL_KINDS, BINARY, CHAIN, DAYS, GREAT, LATER, depth_of, doubled, plain_size, random_kinds, trees_in_order

PAIRS = (("pair", (("couple", ("day", "day")), ("one", ("day",)))),) + DAYS


def some_kinds(chance, many):
    rows = list(ALL_KINDS) + [PAIRS]
    while len(rows) < many:
        kinds = random_kinds(chance)
        if is_kinds(kinds):
            rows.append(kinds)
    return rows


class SmallestTest(unittest.TestCase):

    def test_by_rising_size(self):
        chance = random.Random(301)
        for kinds in some_kinds(chance, 60):
            smallest = Smallest(kinds)
            for kind in [kind for kind, _ in kinds] + ["mark"]:
                trees = [smallest.tree_by(kind, number) for number in range(30)]
                found = [tree for tree in trees if tree is not None]
                self.assertEqual(len({repr(tree) for tree in found}), len(found))
                self.assertEqual(trees[len(found):], [None] * (30 - len(found)))
                sizes = [plain_size(tree) for tree in found]
                wanted = [plain_size(tree) for tree in trees_in_order(kinds, kind, 5, 30)[:30]]
                if kinds != GREAT:
                    self.assertEqual(sizes[:len(wanted)], wanted, (kinds, kind))
                self.assertEqual(sizes, sorted(sizes))

    def test_great_and_deep(self):
        self.assertEqual([plain_size(Smallest(GREAT).tree_by("a", number)) for number in (0, 9, 40)], [364] * 3)
        self.assertEqual(depth_of(Smallest(CHAIN).tree_by("chain", 150)), 151)

    def test_how_many_in_all(self):
        self.assertEqual(counts_of(PAIRS), {"day": 4, "pair": 20})
        self.assertEqual(counts_of(LATER), {})
        chance = random.Random(302)
        for kinds in some_kinds(chance, 120):
            counts = counts_of(kinds)
            for kind, _ in kinds:
                self.assertEqual(kind in counts, is_finite(kinds, kind), (kinds, kind))
                if counts.get(kind, 99) <= 20:
                    smallest = Smallest(kinds)
                    self.assertEqual(len([at for at in range(25) if smallest.tree_by(kind, at) is not None]), counts[kind])

    def test_ranges(self):
        self.assertEqual(ranges_of(BINARY), {"node": (3, None), "leaf": (1, 1)})
        self.assertEqual(ranges_of(PAIRS), {"couple": (3, 3), "one": (2, 2), "mon": (1, 1), "tue": (1, 1), "wed": (1, 1), "thu": (1, 1)})
        self.assertEqual(ranges_of(LATER)["long"], (5, 5))
        self.assertEqual(ranges_of(GREAT)["fa"], (364, 364))
        kinds = (("a", (("one", ("b", "b")), ("two", ()))), ("b", (("few", ()), ("more", ("mark", "mark")))))
        self.assertEqual(ranges_of(kinds), {"one": (3, 7), "two": (1, 1), "few": (1, 1), "more": (3, 3)})


class WorthsTest(unittest.TestCase):

    def test_each_tree_once(self):
        chance = random.Random(303)
        worths = Worths()
        trees = [chance.choice(trees_in_order(kinds, kind, 6, 2)[:40]) for kinds in ALL_KINDS[:6] for kind, _ in kinds for _ in range(20)]
        for tree in trees + [0, 7, 0] + trees:
            number = worths.of_tree(tree)
            self.assertEqual(worths.trees[number], tree)
            self.assertEqual(worths.sizes[number], plain_size(tree))
            self.assertEqual(worths.depths[number], depth_of(tree))
            self.assertEqual(worths.of_tree(tree), number)
        self.assertEqual(len({repr(tree) for tree in worths.trees}), len(worths.trees))

    def test_great_trees_are_soon_looked_at(self):
        worths = Worths()
        number = worths.of_tree(("leaf",))
        for _ in range(300):
            number = worths.of_made("node", (number, number))
        self.assertEqual((worths.sizes[number], worths.depths[number], len(worths.trees)), (2 ** 301 - 1, 301, 301))
        self.assertEqual(worths.trees[worths.of_tree(doubled(("leaf",), 5))], doubled(("leaf",), 5))

    def test_what_is_open(self):
        worths = Worths()
        one, other = worths.of_open(3), worths.of_open(4)
        self.assertNotEqual(one, other)
        self.assertEqual((worths.of_open(3), worths.sizes[one], worths.depths[one]), (one, 0, 0))
        self.assertEqual(worths.of_made("node", (one, other)), worths.of_made("node", (one, other)))
        self.assertNotEqual(worths.of_made("node", (one, other)), worths.of_made("node", (other, one)))
        self.assertNotEqual(worths.of_open(3), worths.of_mark(3))


if __name__ == "__main__":
    unittest.main()
