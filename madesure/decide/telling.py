"""Steps that tell why terms of a closure are alike."""


class Telling:
    """Facts put to a proof by which terms of a closure are the same."""

    def __init__(self, closure, proof):
        self.closure = closure
        self.proof = proof
        self.edge_facts = {}

    def same(self, one, other):
        """Put what tells that two terms of one class are the same, and tell that fact."""
        for edge in self._edges_needed(one, other):
            self.edge_facts[edge] = self._put_edge(edge)
        return self._link(one, other)

    def _edges_needed(self, one, other):
        """Tell the edges without a fact on the way between two terms, and by which these came, older ones first."""
        needed = {}
        waiting = [(one, other)]
        while waiting:
            first, last = waiting.pop()
            for edge in self.closure.way(first, last):
                if edge not in needed and edge not in self.edge_facts:
                    needed[edge] = True
                    waiting.extend(self._alike_ahead(edge))
        return sorted(needed)

    def _alike_ahead(self, edge):
        """Tell the pairs of terms because of which an edge was joined."""
        one, other, reason = self.closure.edges[edge]
        owns = self.closure.table.owns
        if reason[0] == "alike":
            return list(zip(owns[one], owns[other]))
        if reason[0] == "inner":
            return [(reason[1], reason[2])]
        if reason[0] in ("taken", "elsewhere"):
            return [(owns[one][0], reason[1])]
        return []

    def _link(self, one, other):
        """Put the same of two terms, all edges between which have their facts."""
        edges = self.closure.way(one, other)
        if len(edges) == 1 and self.closure.edges[edges[0]][:2] == (one, other):
            return self.edge_facts[edges[0]]
        return self.proof.put(("linked", one, tuple([self.edge_facts[edge] for edge in edges])))

    def _put_edge(self, edge):
        """Put the same of the two terms of an edge, what it came by being told."""
        one, _, reason = self.closure.edges[edge]
        if reason[0] == "fact":
            return reason[1]
        if reason[0] == "shaped":
            return self.proof.put(("shaped", reason[1]))
        facts = tuple([self._link(first, last) for first, last in self._alike_ahead(edge)])
        head = self.closure.table.heads[one]
        if reason[0] == "inner":
            return self.proof.put(("inner", facts[0], reason[3]))
        if reason[0] == "taken":
            return self.proof.put(("taken", facts[0], head[2]))
        if reason[0] == "elsewhere":
            return self.proof.put(("elsewhere", self.proof.put(("tested", facts[0])), head[1], head[2]))
        if isinstance(head, tuple):
            return self.proof.put(("alikepart", head[1], head[2], facts[0]))
        return self.proof.put(("alike", head, facts))
