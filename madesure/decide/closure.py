"""Terms parted into classes of those that must be alike, each two joined for a reason.

Terms have the numbers of a table here. What is joined is kept as a row of edges, which stand as a
forest over the terms: of two terms that are joined because two others are alike, the way between
these goes by older edges alone. So steps can tell all edges in their order.
"""

from madesure.papers.steps import made_of_parts
from madesure.terms.formulas import NOT, SAME, TEST


class Closure:
    """Classes of terms.

    By the number of a term: leaders, the number that stands for its class; ups, the (number, edge)
    by which it hangs in the forest. By a leader: members; users, the terms with an own term among
    these; mades, one made term or mark among these, or None. Edges are (one, other, reason). parts
    are all part terms; unlikes (one, other, fact) and untested (maker, term, fact) are what is told
    by nots; clash is two terms joined that cannot be alike, or None.
    """

    def __init__(self, table):
        self.table = table
        self.leaders = {}
        self.ups = {}
        self.members = {}
        self.users = {}
        self.mades = {}
        self.looks = {}
        self.edges = []
        self.parts = []
        self.waiting = []
        self.unlikes = []
        self.untested = []
        self.clash = None

    def copied(self):
        """Tell a closure with the same classes, that may go on by itself."""
        other = Closure(self.table)
        other.leaders = dict(self.leaders)
        other.ups = dict(self.ups)
        other.members = dict(self.members)
        other.users = dict(self.users)
        other.mades = dict(self.mades)
        other.looks = {look: self.looks[look] for look in self.looks}
        other.edges = list(self.edges)
        other.parts = list(self.parts)
        other.waiting = list(self.waiting)
        other.unlikes = list(self.unlikes)
        other.untested = list(self.untested)
        other.clash = self.clash
        return other

    def take_fact(self, formula, fact):
        """Take the fact with this number: a same, a test or a not of one; others tell nothing here."""
        if formula[0] == SAME:
            self.waiting.append((self.number_of(formula[1]), self.number_of(formula[2]), ("fact", fact)))
        elif formula[0] == TEST:
            made = self.number_of(made_of_parts(self.table.ground, formula[1], formula[2]))
            self.waiting.append((self.number_of(formula[2]), made, ("shaped", fact)))
        elif formula[0] == NOT and formula[1][0] == SAME:
            self.unlikes.append((self.number_of(formula[1][1]), self.number_of(formula[1][2]), fact))
        elif formula[0] == NOT and formula[1][0] == TEST:
            self.untested.append((formula[1][1], self.number_of(formula[1][2]), fact))

    def number_of(self, term):
        """Tell the number of a term, which is taken into the classes with all that is looked at with it."""
        number = self.table.number_of(term)
        waiting = [number]
        while waiting:
            node = waiting[-1]
            missing = [inner for inner in self.table.needed_by(node) if inner not in self.leaders]
            if missing:
                waiting.extend(missing)
            else:
                waiting.pop()
                if node not in self.leaders:
                    self._begin(node)
        return number

    def join_all(self):
        """Join all that must be alike, until none is left or two are that cannot be."""
        while self.waiting and self.clash is None:
            one, other, reason = self.waiting.pop()
            if self.leaders[one] != self.leaders[other]:
                self._join(one, other, reason)

    def way(self, one, other):
        """Tell the edges by which one of two terms of a class comes to the other one."""
        edges = []
        places = {one: 0}
        node = one
        while self.ups[node] is not None:
            node, edge = self.ups[node]
            edges.append(edge)
            places[node] = len(edges)
        last_edges = []
        node = other
        while node not in places:
            node, edge = self.ups[node]
            last_edges.append(edge)
        return edges[:places[node]] + last_edges[::-1]

    def made_in(self, number):
        """Tell the made term or mark in the class of a term, None where there is none."""
        return self.mades[self.leaders[number]]

    def look_of(self, number):
        """Tell the head of a term and the classes of its own terms."""
        return self.table.heads[number], tuple([self.leaders[inner] for inner in self.table.owns[number]])

    def _begin(self, number):
        """Take a term, all that is looked at with which is taken."""
        self.leaders[number] = number
        self.ups[number] = None
        self.members[number] = (number,)
        self.users[number] = ()
        self.mades[number] = None if self.table.is_free(number) else number
        for inner in self.table.owns[number]:
            self.users[self.leaders[inner]] = self.users[self.leaders[inner]] + (number,)
        self._look(number)
        if self.table.is_part(number):
            self.parts.append(number)
            self._take_parts((number,), self.made_in(self.table.owns[number][0]))

    def _look(self, number):
        """Join a term to one of its head whose own terms are in the same classes, if there is one."""
        look = self.look_of(number)
        if look in self.looks:
            self.waiting.append((number, self.looks[look], ("alike",)))
        else:
            self.looks[look] = number

    def _take_parts(self, numbers, made):
        """Join those of some terms that are parts of a made term to what these parts are."""
        if made is None:
            return
        for number in numbers:
            if self.table.is_part(number):
                _, maker, k = self.table.heads[number]
                if self.table.heads[made] == maker:
                    self.waiting.append((number, self.table.owns[made][k], ("taken", made)))
                else:
                    least = self.table.least_of(self.table.kinds[number])
                    self.waiting.append((number, least, ("elsewhere", made)))

    def _join(self, one, other, reason):
        edge = len(self.edges)
        self.edges.append((one, other, reason))
        if len(self.members[self.leaders[one]]) < len(self.members[self.leaders[other]]):
            one, other = other, one
        kept, gone = self.leaders[one], self.leaders[other]
        self._hang(other, one, edge)
        self._meet(kept, gone)
        for member in self.members[gone]:
            self.leaders[member] = kept
        self.members[kept] = self.members[kept] + self.members[gone]
        for user in self.users[gone]:
            self._look(user)
        self.users[kept] = self.users[kept] + self.users[gone]

    def _hang(self, low, high, edge):
        """Hang the tree of the forest in which low is below high, low first in it."""
        node, up = low, (high, edge)
        while up is not None:
            above = self.ups[node]
            self.ups[node] = up
            up = None
            if above is not None:
                up = (node, above[1])
                node = above[0]

    def _meet(self, kept, gone):
        """See to the made terms of two classes that are joined."""
        one, other = self.mades[kept], self.mades[gone]
        owns = self.table.owns
        if one is None:
            self.mades[kept] = other
            self._take_parts(self.users[kept], other)
        elif other is None:
            self._take_parts(self.users[gone], one)
        elif self.table.heads[one] != self.table.heads[other]:
            self.clash = (one, other)
        else:
            for k in range(len(owns[one])):
                self.waiting.append((owns[one][k], owns[other][k], ("inner", one, other, k)))
