"""Bounds on the sizes that the trees of classes have, narrowed by rules."""

from math import gcd

from madesure.decide.classes import made_owns
from madesure.kinds.kinds import MARK


class Rule:
    """A sum that holds: the (factor, leader)s of rows come to most together, at most.

    It comes of the sum of the (factor, term)s told, which the step source tells, or which is the fact
    ("fact", fact): the leaders are put for their terms, and all is divided by the divisor.
    """

    def __init__(self, closure, told, most, source):
        factors = {}
        for factor, term in told:
            leader = closure.leaders[term]
            factors[leader] = factors.get(leader, 0) + factor
        divisor = 0
        for factor in factors.values():
            divisor = gcd(divisor, factor)
        self.divisor = max(1, divisor)
        self.rows = [(factor // self.divisor, leader) for leader, factor in factors.items() if factor != 0]
        self.most = most // self.divisor
        self.told = told
        self.source = source


class Bounds:
    """The least and the most size that each class can have, by its leader.

    lows and highs have (bound, place in the trail); trail has (leader, is_high, bound, source, places):
    places are those of the bounds by which that one came, source is ("kind",), ("gap", how often), ("rule",
    number), or None where no step tells it. Each bound is the size of some tree of the kind: so the least
    one is never beyond the most. clash is the number of a rule that cannot hold, or None. free are the
    leaders of classes with a name or a part term.
    """

    def __init__(self, closure, rules, free):
        self.closure = closure
        self.ground = closure.table.ground
        self.rules = rules
        self.free = free
        self.lows = {}
        self.highs = {}
        self.trail = []
        self.clash = None

    def bounded(self, leader, is_high, bound):
        """Tell the same with one bound more, not beyond the others, which no step tells."""
        other = Bounds(self.closure, self.rules, self.free)
        other.lows = dict(self.lows)
        other.highs = dict(self.highs)
        other.trail = list(self.trail)
        other.put(leader, is_high, bound, None, ())
        return other

    def put(self, leader, is_high, bound, source, places):
        """Put a bound, and go on from a size that no tree of the kind has to the next one."""
        self._keep(leader, is_high, bound, source, places)
        kind = self.closure.table.kinds[leader]
        many = 0
        while self._is_between(leader, bound) and self.ground.is_gap(kind, bound):
            bound = bound - 1 if is_high else bound + 1
            many += 1
        if many > 0:
            self._keep(leader, is_high, bound, ("gap", many), (len(self.trail) - 1,))

    def narrow(self):
        """Narrow the bounds by the rules, until none does or they cannot be."""
        is_changed = True
        while is_changed:
            is_changed = False
            for number, rule in enumerate(self.rules):
                if self.clash is None and self._narrow_by(number, rule):
                    is_changed = self.clash is None

    def fitting(self):
        """Tell a size for each leader by which all rules hold, None where there are no such sizes."""
        waiting = [self]
        while waiting:
            box = waiting.pop()
            box.narrow()
            if box.clash is None:
                if box.are_lows_fitting():
                    return {leader: bound for leader, (bound, _) in box.lows.items()}
                leader, middle = box.middle()
                waiting.append(box.bounded(leader, False, middle + 1))
                waiting.append(box.bounded(leader, True, middle))
        return None

    def are_lows_fitting(self):
        """Tell whether all rules hold by the least sizes."""
        return all([sum([factor * self.lows[leader][0] for factor, leader in rule.rows]) <= rule.most
                    for rule in self.rules])

    def middle(self):
        """Tell the leader with the widest bounds, of the free classes, and the middle of these.

        What other classes have as size hangs on these alone, which are no greater than names may be.
        """
        widths = {leader: self.highs[leader][0] - self.lows[leader][0] for leader in self.free}
        widest = max(self.free, key=lambda leader: widths[leader])
        return widest, self.lows[widest][0] + widths[widest] // 2

    def bound_against(self, factor, leader):
        """Tell the (bound, place) that makes factor times the size least, None where there is none."""
        return self.lows[leader] if factor > 0 else self.highs.get(leader)

    def _is_between(self, leader, bound):
        """Tell whether a bound is not beyond those of a leader."""
        return self.lows[leader][0] <= bound and (leader not in self.highs or bound <= self.highs[leader][0])

    def _keep(self, leader, is_high, bound, source, places):
        rows = self.highs if is_high else self.lows
        rows[leader] = (bound, len(self.trail))
        self.trail.append((leader, is_high, bound, source, places))

    def _narrow_by(self, number, rule):
        """Narrow the bounds by a rule; tell whether that changes any."""
        bounds = [self.bound_against(factor, leader) for factor, leader in rule.rows]
        # A class without a most size has nothing that its least one could be against: it would only grow and grow.
        if None in bounds:
            return False
        room = rule.most - sum([row[0] * bound[0] for row, bound in zip(rule.rows, bounds)])
        if room < 0:
            self.clash = number
            return True
        is_changed = False
        for at, (factor, leader) in enumerate(rule.rows):
            space = room + factor * bounds[at][0]
            if self._is_narrower(factor, leader, space):
                places = tuple([place for _, place in bounds[:at] + bounds[at + 1:]])
                bound = space // factor if factor > 0 else -(space // -factor)
                self.put(leader, factor > 0, bound, ("rule", number), places)
                is_changed = True
        return is_changed

    def _is_narrower(self, factor, leader, space):
        """Tell whether it narrows the bounds of a leader that factor times its size is at most the space."""
        if factor < 0:
            return -(space // -factor) > self.lows[leader][0]
        return leader not in self.highs or space // factor < self.highs[leader][0]


def bounds_of(closure, sums):
    """Tell the bounds of all classes whose sizes sums are about, each of these (rows, most, fact), and mosts."""
    rules = []
    for name, (_, most) in closure.table.ground.names.items():
        if most is not None:
            term = closure.number_of(name)
            rules.append(Rule(closure, [(1, term)], most, ("within", name)))
    for rows, most, fact in sums:
        rules.append(Rule(closure, rows, most, ("fact", fact)))
    leaders = _leaders_within(closure, [leader for rule in rules for _, leader in rule.rows])
    for leader in leaders:
        rules.extend(_rules_of_class(closure, leader))
    table = closure.table
    free = [leader for leader in leaders if any([table.is_free(member) for member in closure.members[leader]])]
    bounds = Bounds(closure, rules, free)
    for leader in leaders:
        bounds.put(leader, False, table.ground.sizes[table.kinds[leader]], ("kind",), ())
    return bounds


def _leaders_within(closure, leaders):
    """Tell some leaders and all of their made terms' own terms, and so on, each once."""
    told = {}
    waiting = list(leaders)
    while waiting:
        leader = waiting.pop()
        if leader not in told:
            told[leader] = True
            waiting.extend([closure.leaders[own] for own in made_owns(closure, leader)])
    return list(told)


def _rules_of_class(closure, leader):
    """Tell the rules that the size of a made term or a mark is its own terms' and one more."""
    if closure.table.kinds[leader] == MARK:
        return [Rule(closure, [(1, leader)], 1, ("counts", leader, True))]
    made = closure.mades[leader]
    if made is None:
        return []
    own = closure.table.owns[made]
    rules = [Rule(closure, [(1, made)] + [(-1, term) for term in own], 1, ("counts", made, True))]
    if own:
        # Without own terms the kind alone tells that it is not less.
        rules.append(Rule(closure, [(-1, made)] + [(1, term) for term in own], -1, ("counts", made, False)))
    return rules
