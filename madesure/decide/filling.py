"""Trees found for the classes of a closure, by which what is told to be unlike is so."""

from madesure.decide.classes import made_owns
from madesure.kinds.kinds import MARK
from madesure.terms.terms import MOST_MOST
from madesure.trees.counts import Tally, tree_in
from madesure.trees.smallest import Smallest, counts_of, ranges_of
from madesure.trees.worths import Worths

# Trees beyond these need not be told where others fit.
MOST_SIZE = 10 ** 5
MOST_DEPTH = 200


class Stock:
    """Trees by kind and number: of a size, or with None as size all of the kind by rising size."""

    def __init__(self, kinds, marks):
        self.kinds = kinds
        self.marks = marks
        self.smallest = Smallest(kinds)
        self.counts = counts_of(kinds)
        self.ranges = ranges_of(kinds)
        self.tally = None

    def many(self, kind, size):
        """Tell how many trees there are, None where endless."""
        if size is None:
            return self.counts.get(kind)
        return self._tallied(size).trees[kind][size]

    def tree_by(self, kind, size, number):
        """Tell the tree with a number, None where there is none."""
        if size is None:
            return self.smallest.tree_by(kind, number)
        if number >= self.many(kind, size):
            return None
        return tree_in(self._tallied(size), kind, size, number)

    def _tallied(self, size):
        if self.tally is None or len(self.tally.trees[MARK]) <= size:
            self.tally = Tally(self.kinds, max(MOST_MOST, size), self.marks)
        return self.tally


class Filling:
    """Trees put for the open classes, one by one: of the size that the class has in sizes, or of any.

    By the leader of a class: ids, the number of what it is worth so far; dependents, itself and the
    classes in whose made terms it is, those ahead that are in others; pairs, those of which one of
    two that must be unlike is among these.
    """

    def __init__(self, closure, sizes, stock):
        self.closure = closure
        self.sizes = sizes
        self.stock = stock
        self.worths = Worths()
        self.order = own_first(closure)
        self.ids = {}
        for leader in self.order:
            self.ids[leader] = self._worth(leader)
        self.opens = [leader for leader in self.order if closure.mades[leader] is None]
        self.dependents = {leader: self._dependents(leader) for leader in self.opens}
        self.pairs = {leader: self._pairs(leader) for leader in self.opens}

    def fill(self):
        """Put trees for all open classes; tell a class for which there is none left, None where all have one."""
        weights = self._weights()
        keys = {leader: self._key(leader, weights) for leader in self.opens}
        for leader in sorted(self.opens, key=lambda own: keys[own]):
            if not self._put(leader):
                return leader
        return None

    def answer(self):
        """Tell the answer by the trees put."""
        return {name: self.worths.trees[number] for name, number in self._name_ids()}

    def is_great(self):
        """Tell whether a tree of the answer is greater or deeper than one need be."""
        return any([self.worths.sizes[number] > MOST_SIZE or self.worths.depths[number] > MOST_DEPTH
                    for _, number in self._name_ids()])

    def _name_ids(self):
        table = self.closure.table
        return [(name, self.ids[self.closure.leaders[table.number_of(name)]]) for name in table.ground.names]

    def _worth(self, leader):
        made = self.closure.mades[leader]
        if made is None:
            return self.worths.of_open(leader)
        head = self.closure.table.heads[made]
        if self.closure.table.kinds[made] == MARK:
            return self.worths.of_mark(head)
        return self.worths.of_made(head, tuple([self.ids[own] for own in _owns(self.closure, leader)]))

    def _dependents(self, leader):
        told = {leader: True}
        for other in self.order:
            if any([own in told for own in _owns(self.closure, other)]):
                told[other] = True
        return list(told)

    def _pairs(self, leader):
        depending = {other: True for other in self.dependents[leader]}
        leaders = self.closure.leaders
        pairs = [(leaders[one], leaders[other]) for one, other, _ in self.closure.unlikes]
        return [pair for pair in pairs if pair[0] in depending or pair[1] in depending]

    def _weights(self):
        """Tell how often each class stands in the trees of all names."""
        table = self.closure.table
        weights = {leader: 0 for leader in self.order}
        for name in table.ground.names:
            weights[self.closure.leaders[table.number_of(name)]] += 1
        for leader in reversed(self.order):
            for own in _owns(self.closure, leader):
                weights[own] += weights[leader]
        return weights

    def _key(self, leader, weights):
        """Tell by what a class stands in the order in which trees are put.

        First come those that may come to have none left, the fewest trees first. All others have
        enough: each pair leaves out one tree at most. Of them the one that stands most often comes first.
        """
        many = self.stock.many(self.closure.table.kinds[leader], self.sizes.get(leader))
        if many is not None and many <= len(self.pairs[leader]):
            return 0, many
        return 1, -weights[leader]

    def _put(self, leader):
        """Put the first tree for a class by which all its pairs are still unlike; tell whether there is one."""
        kind = self.closure.table.kinds[leader]
        for number in range(len(self.pairs[leader]) + 1):
            tree = self.stock.tree_by(kind, self.sizes.get(leader), number)
            if tree is None:
                return False
            self.ids[leader] = self.worths.of_tree(tree)
            for other in self.dependents[leader][1:]:
                self.ids[other] = self._worth(other)
            if all([self.ids[one] != self.ids[other] for one, other in self.pairs[leader]]):
                return True
        return False


def _owns(closure, leader):
    """Tell the classes of the own terms of a class's made term."""
    return [closure.leaders[own] for own in made_owns(closure, leader)]


def own_first(closure):
    """Tell all classes, each behind those of its made term's own terms."""
    order = {}
    for first in closure.leaders.values():
        waiting = [first]
        while waiting:
            leader = waiting[-1]
            missing = [own for own in _owns(closure, leader) if own not in order]
            if missing and leader not in order:
                waiting.extend(missing)
            else:
                waiting.pop()
                order[leader] = True
    return list(order)
