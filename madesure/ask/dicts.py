"""Dicts that have a tree for each name, of a size together at most, in order."""

from madesure.trees.counts import Tally, tree_in


class Dicts:
    """All dicts that have for each name of a ground a tree within its most, marked below marks, to a size together.

    counts has for each name a row, with the number of its trees at their size; rests has for each
    name such a row for it and those behind it together, and one for none.
    """

    def __init__(self, ground, size, marks):
        self.size = size
        self.tally = Tally(ground.rows, size, marks)
        self.kinds = {name: kind for name, (kind, _) in ground.names.items()}
        self.counts = [self._counts(kind, most) for kind, most in ground.names.values()]
        self.rests = [[1] + [0] * size]
        for own in self.counts[::-1]:
            rest = self.rests[0]
            self.rests = [[_many_together(own, rest, total) for total in range(size + 1)]] + self.rests
        self.trees = {}

    def how_many(self):
        """Tell how many dicts there are."""
        return sum(self.rests[0])

    def all_dicts(self):
        """Tell all dicts: by size together, then by the trees of the names, the first name's first."""
        return [told for total in range(self.size + 1) for told in self._dicts_of(total)]

    def _counts(self, kind, most):
        trees = self.tally.trees[kind][:self.size + 1]
        return [many if most is None or size <= most else 0 for size, many in enumerate(trees)]

    def _dicts_of(self, total):
        rows = [({}, total)] if self.rests[0][total] > 0 else []
        for at, (name, kind) in enumerate(self.kinds.items()):
            rows = [({**told, name: tree}, left - size) for told, left in rows
                    for size in range(left + 1) if self.counts[at][size] * self.rests[at + 1][left - size] > 0
                    for tree in self._trees_of(kind, size)]
        return [told for told, _ in rows]

    def _trees_of(self, kind, size):
        """Tell all trees of a kind and a size, in order."""
        if (kind, size) not in self.trees:
            many = self.tally.trees[kind][size]
            self.trees[(kind, size)] = [tree_in(self.tally, kind, size, number) for number in range(many)]
        return self.trees[(kind, size)]


def _many_together(own, rest, total):
    """Tell how many pairs of one of own and one of rest have a size together."""
    return sum([own[size] * rest[total - size] for size in range(total + 1)])
