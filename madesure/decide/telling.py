"""Steps that tell why terms of a closure are alike."""


class Telling:
    """Steps put behind so many facts: by these, for each edge the number of its fact."""

    def __init__(self, closure, ahead):
        self.closure = closure
        self.ahead = ahead
        self.steps = []
        self.edge_facts = {}
        self.links = {}

    def put(self, step):
        """Put a step behind the others, and tell the number of its fact."""
        self.steps.append(step)
        return self.ahead + len(self.steps) - 1

    def same(self, one, other):
        """Put what tells that two terms of one class are the same, and tell the number of that fact."""
        for edge in self._edges_needed(one, other):
            self.edge_facts[edge] = self._put_edge(edge)
        return self._link(one, other)

    def _edges_needed(self, one, other):
        """Tell the edges without a fact on the way between two terms, and by which these came, older ones first."""
        needed = {}
        waiting = [(one, other)]
        while waiting:
            first, last = waiting.pop()
            for edge in self.closure.way(first, last):
                if edge not in needed and edge not in self.edge_facts:
                    needed[edge] = True
                    waiting.extend(self._alike_ahead(edge))
        return sorted(needed)

    def _alike_ahead(self, edge):
        """Tell the pairs of terms because of which an edge was joined."""
        one, other, reason = self.closure.edges[edge]
        owns = self.closure.owns
        if reason[0] == "alike":
            return list(zip(owns[one], owns[other]))
        if reason[0] == "inner":
            return [(reason[1], reason[2])]
        if reason[0] in ("taken", "elsewhere"):
            return [(owns[one][0], reason[1])]
        return []

    def _link(self, one, other):
        """Put the same of two terms, all edges between which have their facts."""
        if (one, other) in self.links:
            return self.links[(one, other)]
        edges = self.closure.way(one, other)
        if len(edges) == 1 and self.closure.edges[edges[0]][:2] == (one, other):
            return self.edge_facts[edges[0]]
        numbers = tuple([self.edge_facts[edge] for edge in edges])
        self.links[(one, other)] = self.put(("linked", self.closure.terms[one], numbers))
        return self.links[(one, other)]

    def _put_edge(self, edge):
        """Put the same of the two terms of an edge, what it came by being told."""
        one, _, reason = self.closure.edges[edge]
        if reason[0] == "fact":
            return reason[1]
        if reason[0] == "shaped":
            return self.put(("shaped", reason[1]))
        numbers = tuple([self._link(first, last) for first, last in self._alike_ahead(edge)])
        head = self.closure.heads[one]
        if reason[0] == "inner":
            return self.put(("inner", numbers[0], reason[3]))
        if reason[0] == "taken":
            return self.put(("taken", numbers[0], head[2]))
        if reason[0] == "elsewhere":
            return self.put(("elsewhere", self.put(("tested", numbers[0])), head[1], head[2]))
        if isinstance(head, tuple):
            return self.put(("alikepart", head[1], head[2], numbers[0]))
        return self.put(("alike", head, numbers))
