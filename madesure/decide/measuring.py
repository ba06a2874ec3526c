"""Steps that tell why sizes cannot be."""


class Measuring:
    """Facts put to a proof by which bounds hold; telling puts those by which terms are the same."""

    def __init__(self, bounds, telling):
        self.bounds = bounds
        self.telling = telling
        self.facts = {}

    def find_end(self):
        """Put what tells that a rule cannot hold by the bounds, and tell the end by it."""
        rule = self.bounds.rules[self.bounds.clash]
        places = [self.bounds.bound_against(factor, leader)[1] for factor, leader in rule.rows]
        self._put_all(places)
        return "below", self._without(rule, rule.rows, places)

    def _put(self, step):
        return self.telling.proof.put(step)

    def _put_all(self, places):
        """Put the bounds at places of the trail, and all by which they came."""
        needed = {}
        waiting = list(places)
        while waiting:
            place = waiting.pop()
            if place not in needed and place not in self.facts:
                needed[place] = True
                waiting.extend(self.bounds.trail[place][4])
        for place in sorted(needed):
            row = self.bounds.trail[place]
            self.facts[place] = self._put_bound(*row)

    def _put_bound(self, leader, is_high, bound, source, places):
        """Put a bound, those by which it came being put."""
        if source[0] == "kind":
            return self._put(("kind", leader))
        if source[0] == "gap":
            fact = self.facts[places[0]]
            for _ in range(source[1]):
                fact = self._put(("gap", fact))
            return fact
        rule = self.bounds.rules[source[1]]
        own = [factor for factor, other in rule.rows if other == leader]
        fact = self._without(rule, [row for row in rule.rows if row[1] != leader], places)
        return fact if abs(own[0]) == 1 else self._put(("cut", fact, abs(own[0])))

    def _without(self, rule, rows, places):
        """Put the sum of a rule with the bounds of some of its rows put in, so that these fall away."""
        fact = self._put_rule(rule)
        if not rows:
            return fact
        pairs = [(self.facts[place], abs(factor)) for (factor, _), place in zip(rows, places)]
        return self._put(("added", ((fact, 1), *pairs), 0))

    def _put_rule(self, rule):
        """Put the sum of a rule: the leaders in the place of their terms."""
        fact = rule.source[1] if rule.source[0] == "fact" else self._put(rule.source)
        pairs = [(fact, 1)]
        for factor, term in rule.told:
            leader = self.bounds.closure.leaders[term]
            if leader != term:
                same = self.telling.same(leader, term)
                pairs.append((self._put(("sized", same, factor > 0)), abs(factor)))
        if len(pairs) > 1:
            fact = self._put(("added", tuple(pairs), 0))
        return fact if rule.divisor == 1 else self._put(("cut", fact, rule.divisor))
