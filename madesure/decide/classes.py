"""Stage 8: the terms of a sheet in classes of those that its standing formulas make alike."""

from madesure.decide.closure import Closure
from madesure.decide.proofs import Proof, paper_of, shut_by
from madesure.decide.table import TermTable
from madesure.decide.telling import Telling
from madesure.papers.papers import shows_no
from madesure.terms.formulas import BOTH
from madesure.terms.nested import are_alike, written
from madesure.terms.terms import ground_of

SHUTTING = ("unlike", "two", "tests", "ring")


def classes_of(sheet):
    """Tell ("open", classes) of the terms of a sheet, or ("shut", paper) where they cannot be."""
    ground = ground_of(sheet)
    closure, proof = closed(ground, sheet[2])
    end = end_of(closure, Telling(closure, proof))
    if end is None:
        return "open", _classes(closure)
    return "shut", paper_of(proof, shut_by(proof, end))


def shows_classes(sheet, thing):
    """Tell whether a thing is what the classes of a sheet are told to be, by whatever paper."""
    told = classes_of(sheet)
    if told[0] == "open":
        return are_alike(thing, told)
    if not isinstance(thing, tuple) or len(thing) != 2 or thing[0] != "shut":
        return False
    return shows_no(sheet, thing[1]) and thing[1][1][0] in SHUTTING


def closed(ground, formulas):
    """Tell the classes by the standing formulas, and the proof in which their facts are."""
    table = TermTable(ground)
    proof = Proof(table)
    closure = Closure(table)
    for name in ground.names:
        closure.number_of(name)
    rows = [(formula, proof.put(("given", number))) for number, formula in enumerate(formulas)]
    while rows:
        waiting = []
        for formula, fact in rows:
            closure.take_fact(formula, fact)
            if formula[0] == BOTH:
                waiting.append((formula[1], proof.put(("left", fact))))
                waiting.append((formula[2], proof.put(("right", fact))))
        rows = waiting
    closure.join_all()
    return closure, proof


def end_of(closure, telling):
    """Put what tells that the classes cannot be, and tell the end by it; None where they can be."""
    if closure.clash is not None:
        return "two", telling.same(*closure.clash)
    leaders = closure.leaders
    for one, other, fact in closure.unlikes:
        if leaders[one] == leaders[other]:
            return "unlike", telling.same(one, other), fact
    for maker, term, fact in closure.untested:
        made = closure.made_in(term)
        if made is not None and closure.table.heads[made] == maker:
            return "tests", telling.proof.put(("tested", telling.same(term, made))), fact
    ring = _ring(closure)
    if not ring:
        return None
    return "ring", tuple([telling.same(own, made) for own, made in ring])


def made_owns(closure, leader):
    """Tell the own terms of a made term of a class, none where it has no made term.

    All its made terms have own terms in the same classes, so one of them is enough.
    """
    made = closure.mades[leader]
    return () if made is None else closure.table.owns[made]


def _classes(closure):
    """Tell the classes: terms by repr, in order of their first ones."""
    terms = closure.table.terms
    texts = {number: written(terms[number]) for number in closure.leaders}
    rows = []
    for leader, members in closure.members.items():
        if closure.leaders[leader] == leader:
            rows.append(sorted(members, key=lambda number: texts[number]))
    rows = sorted(rows, key=lambda members: texts[members[0]])
    return tuple([tuple([terms[number] for number in members]) for members in rows])


def _ring(closure):
    """Tell (own term of the made term ahead, made term) of each class of a ring, none where there is no ring."""
    # Whether a class still stands on the path, of those that the walk has come to.
    is_open = {}
    for first in closure.leaders.values():
        path = []
        waiting = [(None, first, False)]
        while waiting:
            own, leader, is_walked = waiting.pop()
            if is_walked:
                is_open[leader] = False
                path.pop()
            elif leader not in is_open:
                is_open[leader] = True
                path.append((own, leader))
                waiting.append((own, leader, True))
                waiting.extend([(inner, closure.leaders[inner], False) for inner in made_owns(closure, leader)])
            elif is_open[leader]:
                return _ring_on(closure, path, own, leader)
    return []


def _ring_on(closure, path, own, leader):
    """Tell the ring at the end of a path, of which the own term of the last made term comes back to a class on it."""
    at = 0
    while path[at][1] != leader:
        at += 1
    rows = [(own, leader)] + path[at + 1:]
    return [(inner, closure.mades[class_here]) for inner, class_here in rows]
