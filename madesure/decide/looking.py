"""What is told already of formulas whose terms need not be in a closure."""

from madesure.terms.formulas import BOTH, EITHER, NOT, SAME, SUM, TEST

# How far the own terms of two made terms are looked at: not to the end, as they may be the same again and again.
DEPTH = 2


def numbered(table, formula):
    """Tell a formula with the numbers of its terms; of a sum its word alone."""
    word = formula[0]
    if word == SUM:
        return (SUM,)
    if word == SAME:
        return SAME, table.number_of(formula[1]), table.number_of(formula[2])
    if word == TEST:
        return TEST, formula[1], table.number_of(formula[2])
    return (word, *[numbered(table, inner) for inner in formula[1:]])


class Looking:
    """Classes, and which of them are told to be unlike."""

    def __init__(self, closure):
        self.closure = closure
        self.unlikes = {}
        for one, other, _ in closure.unlikes:
            self.unlikes[(closure.leaders[one], closure.leaders[other])] = True
            self.unlikes[(closure.leaders[other], closure.leaders[one])] = True

    def holds(self, formula):
        """Tell whether a formula, its terms by number, holds for sure, or for sure does not; else None."""
        word = formula[0]
        if word == SUM:
            return None
        if word == SAME:
            return self._are_alike(formula[1], formula[2], DEPTH)
        if word == TEST:
            made = self._made(formula[2])
            return None if made is None else self.closure.table.heads[made] == formula[1]
        told = [self.holds(inner) for inner in formula[1:]]
        if word == NOT:
            return None if told[0] is None else not told[0]
        # Of both one that does not hold is enough, of either one that does.
        enough = word == EITHER
        if enough in told:
            return enough
        return None if None in told else word == BOTH

    def _leader(self, number):
        """Tell the leader of a term's class, None where it is in none."""
        if number in self.closure.leaders:
            return self.closure.leaders[number]
        own = tuple([self._leader(inner) for inner in self.closure.table.owns[number]])
        look = (self.closure.table.heads[number], own)
        return self.closure.leaders[self.closure.looks[look]] if look in self.closure.looks else None

    def _made(self, number):
        """Tell a made term or a mark that a term is like, itself if it is made, None where none is told."""
        leader = self._leader(number)
        made = None if leader is None else self.closure.mades[leader]
        if made is None and not self.closure.table.is_free(number):
            return number
        return made

    def _are_alike(self, one, other, depth):
        leaders = (self._leader(one), self._leader(other))
        if one == other or leaders[0] is not None and leaders[0] == leaders[1]:
            return True
        if leaders in self.unlikes:
            return False
        made, its_made = self._made(one), self._made(other)
        if made is None or its_made is None:
            return None
        if self.closure.table.heads[made] != self.closure.table.heads[its_made]:
            return False
        if depth == 0:
            return None
        owns = self.closure.table.owns
        told = [self._are_alike(first, second, depth - 1) for first, second in zip(owns[made], owns[its_made])]
        if False in told:
            return False
        return None if None in told else True
