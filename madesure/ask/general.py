"""Stage 10: the general answers of plain sheets, of which all others are instances."""

from madesure.decide.classes import closed, end_of
from madesure.decide.filling import own_first
from madesure.decide.proofs import paper_of, shut_by, steps_of
from madesure.decide.telling import Telling
from madesure.errors import NoPlain, NoTerm
from madesure.papers.papers import shows_no
from madesure.papers.steps import Ahead, fact_on
from madesure.terms.formulas import SAME
from madesure.terms.ground import PART, terms_in
from madesure.terms.nested import are_alike
from madesure.terms.terms import check_term, ground_of


def general(sheet):
    """Tell ("general", bindings, steps) of a plain sheet, or ("no", paper)."""
    ground = _check_plain(sheet)
    closure, proof = closed(ground, sheet[2])
    telling = Telling(closure, proof)
    end = end_of(closure, telling)
    if end is not None:
        return "no", paper_of(proof, shut_by(proof, end))
    pairs = _pairs(closure)
    facts = [telling.same(name, term) for name, term in pairs]
    steps, numbers = steps_of(proof, facts)
    terms = closure.table.terms
    last = -1
    for (name, _), fact in zip(pairs, facts):
        number = numbers[fact]
        if number < last:
            # It stands ahead of the one by the pair before: so it is told once more.
            number = len(steps)
            steps.append(("linked", terms[name], (numbers[fact],)))
        last = number
    return "general", tuple([(terms[name], terms[term]) for name, term in pairs]), tuple(steps)


def shows_general(sheet, thing):
    """Tell whether a thing is general with bindings and steps that tell them, or no with a paper that is shut."""
    ground = _check_plain(sheet)
    if not isinstance(thing, tuple) or len(thing) not in (2, 3):
        return False
    if len(thing) == 2:
        return thing[0] == "no" and shows_no(sheet, thing[1])
    word, bindings, steps = thing
    if word != "general" or not _are_bindings(ground, bindings):
        return False
    putting = PutIn(bindings)
    if not all([putting.number_of(one) == putting.number_of(other) for _, one, other in sheet[2]]):
        return False
    return _are_told(ground, sheet[2], bindings, steps)


def put_in(sheet, bindings, one, other):
    """Tell whether two terms of a plain sheet come to one where bindings are put in."""
    ground = _check_plain(sheet)
    if not _are_bindings(ground, bindings):
        raise NoTerm("these are no bindings")
    check_term(ground, one)
    check_term(ground, other)
    putting = PutIn(bindings)
    return putting.number_of(one) == putting.number_of(other)


class PutIn:
    """Terms by number, all bound names put in: those that come to one have one number."""

    def __init__(self, bindings):
        self.numbers = {}
        self.bound = {}
        # In the last one's term no name is bound, and in each other one's those behind it alone.
        for name, term in bindings[::-1]:
            self.bound[name] = self.number_of(term)

    def number_of(self, term):
        """Tell the number of a term."""
        done = []
        for node in reversed(terms_in(term)):
            if isinstance(node, str) and node in self.bound:
                done.append(self.bound[node])
            elif not isinstance(node, tuple):
                done.append(self._number(node, ()))
            elif node[0] == PART:
                done.append(self._number(node[:3], (done.pop(),)))
            else:
                own = [done.pop() for _ in node[1:]]
                done.append(self._number(node[0], tuple(own)))
        return done.pop()

    def _number(self, head, own):
        return self.numbers.setdefault((head, own), len(self.numbers))


def _check_plain(sheet):
    """Refuse what is no sheet, then one that is not plain, else tell its ground."""
    ground = ground_of(sheet)
    if not all([most is None for _, _, most in sheet[1]]):
        raise NoPlain("a name has a most")
    for formula in sheet[2]:
        if formula[0] != SAME or _has_parts(formula[1]) or _has_parts(formula[2]):
            raise NoPlain("a formula is no same, or has parts")
    return ground


def _has_parts(term):
    return any([isinstance(node, tuple) and node[0] == PART for node in terms_in(term)])


def _pairs(closure):
    """Tell the (name, term) of each bound name, by their numbers: those ahead whose terms have others in them."""
    table = closure.table
    pairs = []
    for leader in own_first(closure)[::-1]:
        numbers = [table.number_of(name) for name in table.ground.names]
        names = [number for number in numbers if closure.leaders[number] == leader]
        made = closure.mades[leader]
        if made is None:
            pairs.extend([(name, names[0]) for name in names[1:]])
        else:
            pairs.extend([(name, made) for name in names])
    return pairs


def _are_bindings(ground, thing):
    """Tell whether a thing has the form of bindings: pairs of a name and a term of its kind, none bound ahead in it."""
    if not isinstance(thing, tuple):
        return False
    bound = []
    for row in thing:
        if not isinstance(row, tuple) or len(row) != 2 or not isinstance(row[0], str):
            return False
        name, term = row
        if name not in ground.names or name in bound or ground.kind_of(term) != ground.names[name][0]:
            return False
        bound.append(name)
        if any([isinstance(node, str) and node in bound for node in terms_in(term)]):
            return False
    return True


def _are_told(ground, formulas, bindings, steps):
    """Tell whether a thing is steps, behind which the sames of bindings stand in their order among others."""
    if not isinstance(steps, tuple):
        return False
    facts = []
    wanted = [(SAME, name, term) for name, term in bindings]
    found = 0
    for step in steps:
        fact = fact_on(Ahead(ground, formulas, facts), step)
        if fact is None:
            return False
        facts.append(fact)
        if found < len(wanted) and are_alike(fact, wanted[found]):
            found += 1
    return found == len(wanted)
