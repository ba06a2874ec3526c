"""The ends that shut a paper, and the cases by which it goes on."""

from madesure.kinds.kinds import MARK
from madesure.papers.adding import is_below, size_facts
from madesure.papers.steps import are_made_alike
from madesure.terms.formulas import EITHER, NOT, SAME, TEST
from madesure.terms.ground import is_made
from madesure.terms.nested import are_alike
from madesure.whole import is_whole


def cases_on(ahead, end):
    """Tell the (fact, paper) of each case of an end, none where it shuts by itself, None where it is no end there."""
    if end[0] in ENDS:
        shuts = ENDS[end[0]]
        return [] if shuts(ahead, end) else None
    if end[0] in CASES:
        facts_of = CASES[end[0]]
        return paired(facts_of(ahead, end), end[-1])
    return None


def paired(facts, papers):
    """Tell each fact with its paper, None where there are no facts or other than one paper for each."""
    if facts is None or len(facts) != len(papers):
        return None
    return list(zip(facts, papers))


def _unlike(ahead, end):
    same = ahead.fact(end[1], SAME)
    other = ahead.fact(end[2], NOT)
    if same is None or other is None or other[1][0] != SAME:
        return False
    _, one, two = other[1]
    return are_alike(same, (SAME, one, two)) or are_alike(same, (SAME, two, one))


def _two(ahead, end):
    same = ahead.fact(end[1], SAME)
    if same is None:
        return False
    one, two = same[1:]
    if is_made(one) and is_made(two):
        return one[0] != two[0]
    return is_whole(one) and is_whole(two) and one != two


def _tests(ahead, end):
    test = ahead.fact(end[1], TEST)
    if test is None:
        return False
    other = ahead.fact(end[2], TEST)
    if other is not None:
        return other[1] != test[1] and are_alike(other[2], test[2])
    other = ahead.fact(end[2], NOT)
    return other is not None and are_alike(other[1], test)


def _ring(ahead, end):
    numbers = end[1]
    if not isinstance(numbers, tuple) or not numbers:
        return False
    sames = [ahead.fact(number, SAME) for number in numbers]
    if None in sames or not all([is_made(same[2]) for same in sames]):
        return False
    for at, same in enumerate(sames):
        # Of the first one the one ahead is the last, which stands at -1.
        made = sames[at - 1][2]
        if not any([are_alike(same[1], own) for own in made[1:]]):
            return False
    return True


def _below(ahead, end):
    return is_below(ahead.facts, end)


def _by_makers(ahead, end):
    kind = ahead.ground.kind_of(end[1])
    if kind is None or kind == MARK:
        return None
    return [(TEST, maker, end[1]) for maker, _ in ahead.ground.kinds[kind]]


def _by_sizes(ahead, end):
    if ahead.ground.kind_of(end[1]) is None or not is_whole(end[2]):
        return None
    return size_facts(end[1], end[2])


def _by_either(ahead, end):
    fact = ahead.fact(end[1], EITHER)
    return None if fact is None else [fact[1], fact[2]]


def _apart(ahead, end):
    fact = ahead.fact(end[1], NOT)
    if fact is None or fact[1][0] != SAME or not are_made_alike(fact[1][1], fact[1][2]):
        return None
    return [(NOT, (SAME, one, two)) for one, two in zip(fact[1][1][1:], fact[1][2][1:])]


ENDS = {"unlike": _unlike, "two": _two, "tests": _tests, "ring": _ring, "below": _below}
CASES = {"makers": _by_makers, "sizes": _by_sizes, "either": _by_either, "apart": _apart}
