"""All terms that are looked at, each with a number: alike terms have one."""

from madesure.terms.ground import PART, terms_in


class TermTable:
    """Terms by number.

    By the number of a term: terms; heads, a name, a mark, a maker or ("part", maker, k); owns, the
    numbers of its own terms; kinds; lengths, how many terms are in it. leasts has for a kind the
    number of its least tree.
    """

    def __init__(self, ground):
        self.ground = ground
        self.terms = []
        self.heads = []
        self.owns = []
        self.kinds = []
        self.lengths = []
        self.numbers = {}
        self.leasts = {}

    def number_of(self, term):
        """Tell the number of a term, taken with all terms in it."""
        done = []
        for node in reversed(terms_in(term)):
            if not isinstance(node, tuple):
                done.append(self._number(node, node, ()))
            elif node[0] == PART:
                done.append(self._number(node, node[:3], (done.pop(),)))
            else:
                own = [done.pop() for _ in node[1:]]
                done.append(self._number(node, node[0], tuple(own)))
        return done.pop()

    def least_of(self, kind):
        """Tell the number of the least tree of a kind."""
        if kind not in self.leasts:
            self.leasts[kind] = self.number_of(self.ground.least[kind])
        return self.leasts[kind]

    def needed_by(self, number):
        """Tell the terms that are looked at with a term: its own, of a part term the least tree of its kind too."""
        if self.is_part(number):
            return self.owns[number] + (self.least_of(self.kinds[number]),)
        return self.owns[number]

    def is_part(self, number):
        """Tell whether a term is a part term."""
        return isinstance(self.heads[number], tuple)

    def is_free(self, number):
        """Tell whether a term is a name or a part term."""
        return self.is_part(number) or self.heads[number] in self.ground.names

    def _number(self, term, head, own):
        if (head, own) not in self.numbers:
            self.numbers[(head, own)] = len(self.terms)
            self.terms.append(term)
            self.heads.append(head)
            self.owns.append(own)
            self.kinds.append(self.ground.head_kind(term))
            self.lengths.append(1 + sum([self.lengths[inner] for inner in own]))
        return self.numbers[(head, own)]
