"""What terms go by: the kinds, makers and names of a sheet."""

from madesure.kinds.kinds import MARK, least_sizes, maker_table
from madesure.trees.counts import MOST_SIZE, size_bits
from madesure.trees.trees import least_trees
from madesure.whole import is_mark, is_whole

PART = "part"


class Ground:
    """The tables of kinds and names.

    makers has for each maker (kind, place, parts), names for each name (kind, most), least for each
    kind its least tree, sizes its least size, bits (found when first asked for) all its sizes.
    """

    def __init__(self, kinds, names):
        self.rows = kinds
        self.kinds = dict(kinds)
        self.makers = maker_table(kinds)
        self.names = {name: (kind, most) for name, kind, most in names}
        self.least = least_trees(kinds)
        self.sizes = least_sizes(kinds)
        self.bits = None

    def part_kind(self, maker, k):
        """Tell the kind of the k-th part of a maker, None where there is none."""
        if not isinstance(maker, str) or maker not in self.makers or not is_whole(k):
            return None
        parts = self.makers[maker][2]
        return parts[k] if 0 <= k < len(parts) else None

    def head_kind(self, thing):
        """Tell the kind that a thing has if it is a term, by its head alone; None where that begins none."""
        if isinstance(thing, str):
            return self.names[thing][0] if thing in self.names else None
        if not isinstance(thing, tuple):
            return MARK if is_mark(thing) else None
        if not thing or not isinstance(thing[0], str):
            return None
        if thing[0] == PART:
            return self.part_kind(thing[1], thing[2]) if len(thing) == 4 else None
        if thing[0] not in self.makers:
            return None
        kind, _, parts = self.makers[thing[0]]
        return kind if len(thing) == len(parts) + 1 else None

    def kind_of(self, thing):
        """Tell the kind of a term, None of what is no term."""
        told = self.head_kind(thing)
        waiting = [(told, thing)]
        while waiting:
            kind, node = waiting.pop()
            if kind is None or self.head_kind(node) != kind:
                return None
            waiting.extend(list(zip(self._own_kinds(node), own_terms(node))))
        return told

    def is_gap(self, kind, size):
        """Tell whether a number, below 0 too, is not beyond the sizes looked at, and no size of a tree of a kind."""
        if size < 0:
            return True
        if self.bits is None:
            self.bits = size_bits(self.rows, MOST_SIZE)
        return size <= MOST_SIZE and not (self.bits[kind] >> size) & 1

    def _own_kinds(self, term):
        """Tell the kinds that the own terms of a term must have, by its head."""
        if not isinstance(term, tuple):
            return ()
        if term[0] == PART:
            return (self.makers[term[1]][0],)
        return self.makers[term[0]][2]


def is_made(term):
    """Tell whether a term is made by a maker, as it stands."""
    return isinstance(term, tuple) and term[0] != PART


def own_terms(term):
    """Tell the terms that stand in a term, but not within one of them."""
    if not isinstance(term, tuple):
        return ()
    return term[3:] if term[0] == PART else term[1:]


def terms_in(term):
    """Tell all terms in a term, itself first: each ahead of its own, and these from the left."""
    terms = []
    waiting = [term]
    while waiting:
        node = waiting.pop()
        terms.append(node)
        waiting.extend(own_terms(node)[::-1])
    return terms
