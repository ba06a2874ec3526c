"""What stands at one place of a search: classes, sums, and what is not told apart yet."""

from madesure.decide.classes import end_of
from madesure.decide.filling import Filling
from madesure.decide.looking import Looking, numbered
from madesure.decide.measuring import Measuring
from madesure.decide.sizes import bounds_of
from madesure.decide.telling import Telling
from madesure.papers.adding import size_facts
from madesure.papers.steps import turned
from madesure.terms.formulas import BOTH, EITHER, NOT, SUM, TEST

# How often sizes are looked for by which trees are found, before a class is told apart by makers.
TRIES = 6


class State:
    """The facts taken so far.

    sums has the (rows, most, fact) of each sum, rows with the numbers of terms; eithers has the
    (formula, formula by numbers, fact) of each either that does not hold yet. is_without_sizes tells
    that there are no sizes by which all sums hold, though the bounds do not tell it yet.
    """

    def __init__(self, closure, proof):
        self.closure = closure
        self.proof = proof
        self.sums = []
        self.eithers = []
        self.bounds = None
        self.is_without_sizes = False

    def copied(self):
        """Tell a state with the same facts, that may go on by itself."""
        other = State(self.closure.copied(), self.proof)
        other.sums = list(self.sums)
        other.eithers = list(self.eithers)
        other.is_without_sizes = self.is_without_sizes
        return other

    def take(self, formula, fact):
        """Take a fact, and what it says by formulas in it."""
        waiting = [(formula, fact)]
        while waiting:
            formula, fact = waiting.pop()
            word = formula[0]
            if word == BOTH:
                waiting.append((formula[2], self.proof.put(("right", fact))))
                waiting.append((formula[1], self.proof.put(("left", fact))))
            elif word == EITHER:
                self.eithers.append((formula, numbered(self.closure.table, formula), fact))
            elif word == SUM:
                rows = [(factor, self.closure.number_of(term)) for factor, term in formula[1]]
                self.sums.append((rows, formula[2], fact))
            elif word == NOT and turned(formula[1]) is not None:
                waiting.append((turned(formula[1]), self.proof.put(("turned", fact))))
            else:
                self.closure.take_fact(formula, fact)

    def find_end(self):
        """Tell an end by which the state is shut, None where none is found."""
        telling = Telling(self.closure, self.proof)
        self.closure.join_all()
        # Cases by sizes tell nothing new of the classes.
        end = None if self.is_without_sizes else end_of(self.closure, telling)
        if end is not None:
            return end
        self.bounds = bounds_of(self.closure, self.sums)
        self.bounds.narrow()
        return None if self.bounds.clash is None else Measuring(self.bounds, telling).find_end()

    def cases(self):
        """Tell (end, formulas) of cases by which what is not told yet comes to be told; None where all is."""
        if self.is_without_sizes:
            return self._split_by_sizes()
        unsure, is_needed = self._unsure_either()
        number = None if is_needed else self._unmade()
        if number is not None:
            return self._split_by_makers(number)
        if unsure is None:
            return None
        formula, _, fact = self.eithers.pop(unsure)
        return (EITHER, fact), formula[1:]

    def fill(self, stock):
        """Tell (filling, None) with the trees found for what is not told apart, or (None, split) by cases."""
        bounds = self.bounds
        wanted = None
        for _ in range(TRIES):
            sizes = bounds.fitting()
            if sizes is None:
                break
            filling = Filling(self.closure, sizes, stock)
            failed = filling.fill()
            if failed is None:
                return filling, None
            wanted = self._surely_made(filling, stock) or [failed]
            if failed not in sizes or sizes[failed] == bounds.highs[failed][0]:
                break
            bounds = bounds.bounded(failed, False, sizes[failed] + 1)
        if wanted is None:
            self.is_without_sizes = True
            return None, self._split_by_sizes()
        return None, self._split_by_makers(wanted[0])

    def _unsure_either(self):
        """Tell (number, whether one of its two is told not to hold) of an either that is not told, number None of none.

        Those that hold for sure are left out from here on.
        """
        looking = Looking(self.closure)
        kept = []
        needed = []
        for row in self.eithers:
            told = [looking.holds(inner) for inner in row[1][1:]]
            if True not in told:
                kept.append(row)
                needed.append(False in told)
        self.eithers = kept
        if not kept:
            return None, False
        return (needed.index(True), True) if True in needed else (0, False)

    def _unmade(self):
        """Tell a term of which it matters by which maker it is made, and is not told; None where there is none."""
        owns = self.closure.table.owns
        terms = [term for _, term, _ in self.closure.untested] + [owns[part][0] for part in self.closure.parts]
        unmade = [term for term in terms if self.closure.made_in(term) is None]
        return unmade[0] if unmade else None

    def _surely_made(self, filling, stock):
        """Tell the open classes which something must be unlike and whose sizes leave one maker alone."""
        opens = [leader for leader in filling.opens if filling.pairs[leader] and leader in self.bounds.highs]
        return [leader for leader in opens if len(self._makers_left(leader, stock)) == 1]

    def _makers_left(self, leader, stock):
        """Tell the makers whose trees may have a size within the bounds of a class."""
        low, high = self.bounds.lows[leader][0], self.bounds.highs[leader][0]
        makers = self.closure.table.ground.kinds.get(self.closure.table.kinds[leader], ())
        ranges = [(maker, *stock.ranges[maker]) for maker, _ in makers]
        return [maker for maker, least, most in ranges if least <= high and (most is None or low <= most)]

    def _split_by_makers(self, number):
        table = self.closure.table
        term = min(self.closure.members[self.closure.leaders[number]], key=lambda member: table.lengths[member])
        makers = table.ground.kinds[table.kinds[term]]
        return ("makers", term), [(TEST, maker, table.terms[term]) for maker, _ in makers]

    def _split_by_sizes(self):
        leader, middle = self.bounds.middle()
        return ("sizes", leader, middle), size_facts(self.closure.table.terms[leader], middle)
