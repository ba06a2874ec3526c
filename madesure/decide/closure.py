"""Terms parted into classes of those that must be alike, each two joined for a reason.

Terms have numbers here. What is joined is kept as a row of edges, which stand as a forest over the
terms: of two terms that are joined because two others are alike, the way between these goes by
older edges alone. So steps can tell all edges in their order.
"""

from madesure.papers.steps import made_of_parts
from madesure.terms.formulas import NOT, SAME, TEST
from madesure.terms.ground import PART, terms_in


class Closure:
    """Classes of terms.

    By the number of a term: terms; heads, a name, a mark, a maker or ("part", maker, k); owns, the
    numbers of its own terms; leaders, the number that stands for its class; ups, the (number, edge)
    by which it hangs in the forest. By a leader: members; users, the terms with an own term among
    these; mades, one made term or mark among these, or None. By a kind: leasts, its least tree's number.
    Edges are (one, other, reason). clash is two terms joined that cannot be alike, or None.
    """

    def __init__(self, ground):
        self.ground = ground
        self.terms = []
        self.heads = []
        self.owns = []
        self.leaders = []
        self.ups = []
        self.members = []
        self.users = []
        self.mades = []
        self.edges = []
        self.numbers = {}
        self.looks = {}
        self.leasts = {}
        self.waiting = []
        self.unlikes = []
        self.untested = []
        self.clash = None

    def take_fact(self, fact, number):
        """Take the fact with this number: a same, a test or a not of one; others tell nothing here."""
        if fact[0] == SAME:
            self.waiting.append((self.number_of(fact[1]), self.number_of(fact[2]), ("fact", number)))
        elif fact[0] == TEST:
            made = self.number_of(made_of_parts(self.ground, fact[1], fact[2]))
            self.waiting.append((self.number_of(fact[2]), made, ("shaped", number)))
        elif fact[0] == NOT and fact[1][0] == SAME:
            self.unlikes.append((self.number_of(fact[1][1]), self.number_of(fact[1][2]), number))
        elif fact[0] == NOT and fact[1][0] == TEST:
            self.untested.append((fact[1][1], self.number_of(fact[1][2]), number))

    def number_of(self, term):
        """Tell the number of a term, taken with all terms in it, and with the least trees of all parts."""
        done = []
        for node in reversed(terms_in(term)):
            if not isinstance(node, tuple):
                done.append(self._number(node, node, ()))
            elif node[0] == PART:
                self._take_least(self.ground.part_kind(node[1], node[2]))
                done.append(self._number(node, node[:3], (done.pop(),)))
            else:
                own = [done.pop() for _ in node[1:]]
                done.append(self._number(node, node[0], tuple(own)))
        return done.pop()

    def join_all(self):
        """Join all that must be alike, until none is left or two are that cannot be."""
        while self.waiting and self.clash is None:
            one, other, reason = self.waiting.pop()
            if self.leaders[one] != self.leaders[other]:
                self._join(one, other, reason)

    def way(self, one, other):
        """Tell the edges by which one of two terms of a class comes to the other one."""
        edges = []
        places = {one: 0}
        node = one
        while self.ups[node] is not None:
            node, edge = self.ups[node]
            edges.append(edge)
            places[node] = len(edges)
        last_edges = []
        node = other
        while node not in places:
            node, edge = self.ups[node]
            last_edges.append(edge)
        return edges[:places[node]] + last_edges[::-1]

    def _take_least(self, kind):
        if kind not in self.leasts:
            # A least tree has no part terms in it, for which this were asked again.
            self.leasts[kind] = self.number_of(self.ground.least[kind])

    def _number(self, term, head, own):
        """Tell the number of a term by its head and the numbers of its own terms; take it, if it is new."""
        if (head, own) in self.numbers:
            return self.numbers[(head, own)]
        number = len(self.terms)
        self.numbers[(head, own)] = number
        self.terms.append(term)
        self.heads.append(head)
        self.owns.append(own)
        self.leaders.append(number)
        self.ups.append(None)
        self.members.append([number])
        self.users.append([])
        is_free = head in self.ground.names or isinstance(head, tuple)
        self.mades.append(None if is_free else number)
        for inner in own:
            self.users[self.leaders[inner]].append(number)
        self._look(number)
        if isinstance(head, tuple):
            self._take_parts([number], self.mades[self.leaders[own[0]]])
        return number

    def _look(self, number):
        """Join a term to one of its head whose own terms are in the same classes, if there is one."""
        look = (self.heads[number], tuple([self.leaders[inner] for inner in self.owns[number]]))
        if look in self.looks:
            self.waiting.append((number, self.looks[look], ("alike",)))
        else:
            self.looks[look] = number

    def _take_parts(self, numbers, made):
        """Join those of some terms that are parts of a made term to what these parts are."""
        for number in numbers:
            if made is not None and isinstance(self.heads[number], tuple):
                _, maker, k = self.heads[number]
                if self.heads[made] == maker:
                    self.waiting.append((number, self.owns[made][k], ("taken", made)))
                else:
                    least = self.leasts[self.ground.part_kind(maker, k)]
                    self.waiting.append((number, least, ("elsewhere", made)))

    def _join(self, one, other, reason):
        edge = len(self.edges)
        self.edges.append((one, other, reason))
        if len(self.members[self.leaders[one]]) < len(self.members[self.leaders[other]]):
            one, other = other, one
        kept, gone = self.leaders[one], self.leaders[other]
        self._hang(other, one, edge)
        self._meet(kept, gone)
        for member in self.members[gone]:
            self.leaders[member] = kept
        self.members[kept].extend(self.members[gone])
        for user in self.users[gone]:
            self._look(user)
        self.users[kept].extend(self.users[gone])

    def _hang(self, low, high, edge):
        """Hang the tree of the forest in which low is below high, low first in it."""
        node, up = low, (high, edge)
        while up is not None:
            above = self.ups[node]
            self.ups[node] = up
            up = None
            if above is not None:
                up = (node, above[1])
                node = above[0]

    def _meet(self, kept, gone):
        """See to the made terms of two classes that are joined."""
        one, other = self.mades[kept], self.mades[gone]
        if one is None:
            self.mades[kept] = other
            self._take_parts(self.users[kept], other)
        elif other is None:
            self._take_parts(self.users[gone], one)
        elif self.heads[one] != self.heads[other]:
            self.clash = (one, other)
        else:
            for k in range(len(self.owns[one])):
                self.waiting.append((self.owns[one][k], self.owns[other][k], ("inner", one, other, k)))
