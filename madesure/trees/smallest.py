"""The trees of a kind by rising size, however great the least ones are, and how many there are in all."""

from madesure.kinds.kinds import MARK, least_sizes, size_made
from madesure.trees.worths import Worths

FIRST_MANY = 4


class Smallest:
    """For each kind some of its smallest trees, by rising size: more of them whenever more are asked for.

    Of one size they stand by makers, then by the places that their parts have in this order: so those
    that were told stay where they were. rows has for each kind the numbers of its trees among worths,
    as many as are looked at, or all that there are.
    """

    def __init__(self, kinds):
        self.kinds = kinds
        self.worths = Worths()
        self.looked = 0
        self.rows = {}

    def tree_by(self, kind, number):
        """Tell the tree of a kind with this number, None where the kind has no more."""
        while number >= self.looked:
            self.looked = max(FIRST_MANY, 2 * self.looked)
            self._look()
        rows = self.rows[kind]
        return self.worths.trees[rows[number]] if number < len(rows) else None

    def _look(self):
        """Find as many trees of each kind as are looked at, by those of its parts, until none changes."""
        self.rows = {kind: [] for kind, _ in self.kinds}
        self.rows[MARK] = [self.worths.of_mark(mark) for mark in range(self.looked)]
        is_changed = True
        while is_changed:
            is_changed = False
            for kind, makers in self.kinds:
                found = self._found(makers)
                if found != self.rows[kind]:
                    self.rows[kind] = found
                    is_changed = True

    def _found(self, makers):
        found = []
        for maker, parts in makers:
            found.extend([(size, maker, own) for size, own in self._parts_found(parts)])
        found = sorted(found, key=lambda row: row[0])
        return [self.worths.of_made(maker, own) for _, maker, own in found[:self.looked]]

    def _parts_found(self, parts):
        """Tell (size, numbers) of rows of parts, a maker counted with them.

        Ahead of trees with the places i, j in order there are at least i times j rows, themselves
        too, counted from 1: beyond as many as are looked at, they need not be.
        """
        rows = [(1, 1, ())]
        for part in parts:
            own = self.rows[part]
            rows = [(places * (at + 1), size + self.worths.sizes[own[at]], (*numbers, own[at]))
                    for places, size, numbers in rows for at in range(min(len(own), self.looked // places))]
        return [(size, numbers) for _, size, numbers in rows]


def counts_of(kinds):
    """Tell for each finite kind how many trees it has."""
    counts = {}
    # As with the kinds that are finite: by as many rounds as there are kinds each is told.
    for _ in kinds:
        for kind, makers in kinds:
            if all([part in counts for _, parts in makers for part in parts]):
                counts[kind] = sum([_many_made(counts, parts) for _, parts in makers])
    return counts


def ranges_of(kinds):
    """Tell for each maker the (least, most) size of its trees, most None where that has no end."""
    least = least_sizes(kinds)
    most = {MARK: 1}
    for _ in kinds:
        for kind, makers in kinds:
            if all([part in most for _, parts in makers for part in parts]):
                most[kind] = max([size_made(most, parts) for _, parts in makers])
    ranges = {}
    for _, makers in kinds:
        for maker, parts in makers:
            has_end = all([part in most for part in parts])
            ranges[maker] = (size_made(least, parts), size_made(most, parts) if has_end else None)
    return ranges


def _many_made(counts, parts):
    many = 1
    for part in parts:
        many = many * counts[part]
    return many
