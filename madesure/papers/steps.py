"""Stage 5: steps, by which facts are made of facts."""

from madesure.errors import NoStep
from madesure.kinds.kinds import MARK
from madesure.papers.adding import added, cut, fact_at, put_together, thing_at
from madesure.terms.formulas import BOTH, EITHER, NOT, SAME, SUM, TEST
from madesure.terms.ground import PART, is_made
from madesure.terms.nested import are_alike
from madesure.terms.terms import ground_of


class Ahead:
    """What a step may go by: the ground and the formulas of a sheet, and the facts ahead."""

    def __init__(self, ground, formulas, facts):
        self.ground = ground
        self.formulas = formulas
        self.facts = facts

    def fact(self, number, word):
        """Tell the fact with this number, None where there is none or it has another word."""
        return fact_at(self.facts, number, word)


def fact_by(sheet, facts, step):
    """Tell the fact that a step makes behind some facts."""
    fact = fact_on(Ahead(ground_of(sheet), sheet[2], facts), step)
    if fact is None:
        raise NoStep("this is no step there")
    return fact


def fact_on(ahead, step):
    """Tell the fact that a step makes, None of what is no step there."""
    if not isinstance(step, tuple) or not step or not isinstance(step[0], str):
        return None
    if step[0] not in STEPS or len(step) != LENGTHS[step[0]]:
        return None
    told = STEPS[step[0]]
    return told(ahead, step)


def _given(ahead, step):
    return thing_at(ahead.formulas, step[1])


def _within(ahead, step):
    name = step[1]
    if not isinstance(name, str) or name not in ahead.ground.names:
        return None
    most = ahead.ground.names[name][1]
    return None if most is None else put_together([(1, name)], most)


def _left(ahead, step):
    both = ahead.fact(step[1], BOTH)
    return None if both is None else both[1]


def _right(ahead, step):
    both = ahead.fact(step[1], BOTH)
    return None if both is None else both[2]


def _turned(ahead, step):
    fact = ahead.fact(step[1], NOT)
    return None if fact is None else turned(fact[1])


def _linked(ahead, step):
    _, first, numbers = step
    if ahead.ground.kind_of(first) is None or not isinstance(numbers, tuple):
        return None
    last = first
    for number in numbers:
        same = ahead.fact(number, SAME)
        if same is None:
            return None
        if are_alike(last, same[1]):
            last = same[2]
        elif are_alike(last, same[2]):
            last = same[1]
        else:
            return None
    return SAME, first, last


def _alike(ahead, step):
    _, maker, numbers = step
    if not isinstance(maker, str) or maker not in ahead.ground.makers or not isinstance(numbers, tuple):
        return None
    parts = ahead.ground.makers[maker][2]
    if len(numbers) != len(parts):
        return None
    sames = [_same_of(ahead, number, part) for number, part in zip(numbers, parts)]
    if None in sames:
        return None
    return SAME, (maker, *[same[1] for same in sames]), (maker, *[same[2] for same in sames])


def _alikepart(ahead, step):
    _, maker, k, number = step
    if ahead.ground.part_kind(maker, k) is None:
        return None
    same = _same_of(ahead, number, ahead.ground.makers[maker][0])
    return None if same is None else (SAME, (PART, maker, k, same[1]), (PART, maker, k, same[2]))


def _inner(ahead, step):
    same = ahead.fact(step[1], SAME)
    k = step[2]
    if same is None or not are_made_alike(same[1], same[2]) or ahead.ground.part_kind(same[1][0], k) is None:
        return None
    return SAME, same[1][k + 1], same[2][k + 1]


def _taken(ahead, step):
    same = _same_of_made(ahead, step[1])
    k = step[2]
    if same is None or ahead.ground.part_kind(same[2][0], k) is None:
        return None
    return SAME, (PART, same[2][0], k, same[1]), same[2][k + 1]


def _elsewhere(ahead, step):
    _, number, maker, k = step
    test = ahead.fact(number, TEST)
    part = ahead.ground.part_kind(maker, k)
    if test is None or part is None or maker == test[1]:
        return None
    if ahead.ground.makers[maker][0] != ahead.ground.makers[test[1]][0]:
        return None
    return SAME, (PART, maker, k, test[2]), ahead.ground.least[part]


def _tested(ahead, step):
    same = _same_of_made(ahead, step[1])
    return None if same is None else (TEST, same[2][0], same[1])


def _shaped(ahead, step):
    test = ahead.fact(step[1], TEST)
    return None if test is None else (SAME, test[2], made_of_parts(ahead.ground, test[1], test[2]))


def _moved(ahead, step):
    test = ahead.fact(step[1], TEST)
    unlike = _unlike_of(ahead, step[1])
    same = ahead.fact(step[2], SAME)
    if same is None:
        return None
    if test is not None and are_alike(test[2], same[1]):
        return TEST, test[1], same[2]
    if unlike is not None and are_alike(unlike[1], same[1]):
        return NOT, (SAME, same[2], unlike[2])
    return None


def _swapped(ahead, step):
    unlike = _unlike_of(ahead, step[1])
    return None if unlike is None else (NOT, (SAME, unlike[2], unlike[1]))


def _kind(ahead, step):
    kind = ahead.ground.kind_of(step[1])
    return None if kind is None else put_together([(-1, step[1])], -ahead.ground.sizes[kind])


def _counts(ahead, step):
    _, term, up = step
    kind = ahead.ground.kind_of(term)
    if kind is None or not isinstance(up, bool) or not (is_made(term) or kind == MARK):
        return None
    own = term[1:] if is_made(term) else ()
    sign = 1 if up else -1
    return put_together([(sign, term)] + [(-sign, inner) for inner in own], sign)


def _sized(ahead, step):
    same = ahead.fact(step[1], SAME)
    if same is None or not isinstance(step[2], bool):
        return None
    sign = 1 if step[2] else -1
    return put_together([(sign, same[1]), (-sign, same[2])], 0)


def _added(ahead, step):
    return added(ahead.facts, step)


def _cut(ahead, step):
    return cut(ahead.facts, step)


def _gap(ahead, step):
    fact = ahead.fact(step[1], SUM)
    if fact is None or len(fact[1]) != 1:
        return None
    factor, term = fact[1][0]
    if factor not in (1, -1) or not ahead.ground.is_gap(ahead.ground.head_kind(term), factor * fact[2]):
        return None
    return put_together(fact[1], fact[2] - 1)


def turned(inner):
    """Tell what the not of a formula says by formulas in it, None where nothing is told so."""
    if inner[0] == NOT:
        return inner[1]
    if inner[0] == BOTH:
        return EITHER, (NOT, inner[1]), (NOT, inner[2])
    if inner[0] == EITHER:
        return BOTH, (NOT, inner[1]), (NOT, inner[2])
    if inner[0] == SUM:
        return SUM, tuple([(-factor, term) for factor, term in inner[1]]), -inner[2] - 1
    return None


def are_made_alike(one, other):
    """Tell whether two terms are made by one maker, as they stand."""
    return is_made(one) and is_made(other) and one[0] == other[0]


def made_of_parts(ground, maker, term):
    """Tell the term that a maker makes of its parts of a term."""
    return (maker, *[(PART, maker, k, term) for k in range(len(ground.makers[maker][2]))])


def _same_of(ahead, number, kind):
    """Tell the same with this number, None where there is none or its sides are of another kind."""
    same = ahead.fact(number, SAME)
    return same if same is not None and ahead.ground.head_kind(same[1]) == kind else None


def _same_of_made(ahead, number):
    """Tell the same with this number, None where there is none or its right side is not made."""
    same = ahead.fact(number, SAME)
    return same if same is not None and is_made(same[2]) else None


def _unlike_of(ahead, number):
    """Tell the same of which the fact with this number is the not, None where it is none."""
    fact = ahead.fact(number, NOT)
    return fact[1] if fact is not None and fact[1][0] == SAME else None


STEPS = {"given": _given, "within": _within, "left": _left, "right": _right, "turned": _turned, "linked": _linked,
         "alike": _alike, "alikepart": _alikepart, "inner": _inner, "taken": _taken, "elsewhere": _elsewhere,
         "tested": _tested, "shaped": _shaped, "moved": _moved, "swapped": _swapped, "kind": _kind,
         "counts": _counts, "sized": _sized, "added": _added, "cut": _cut, "gap": _gap}
# How many things each step has, its word among them.
LENGTHS = {"given": 2, "within": 2, "left": 2, "right": 2, "turned": 2, "linked": 3, "alike": 3, "alikepart": 4,
           "inner": 3, "taken": 3, "elsewhere": 4, "tested": 2, "shaped": 2, "moved": 3, "swapped": 2, "kind": 2,
           "counts": 3, "sized": 3, "added": 3, "cut": 3, "gap": 2}
