"""Sums among facts, put together and cut."""

from madesure.terms.formulas import SUM
from madesure.terms.nested import written
from madesure.whole import is_whole


def thing_at(row, number):
    """Tell the thing with this number in a row, None where there is none."""
    return row[number] if is_whole(number) and 0 <= number < len(row) else None


def fact_at(facts, number, word):
    """Tell the fact with this number, None where there is none or it has another word."""
    fact = thing_at(facts, number)
    return fact if fact is not None and fact[0] == word else None


def put_together(rows, number):
    """Tell the sum of rows: like terms together, factors 0 left out, by the repr of the terms."""
    factors = {}
    terms = {}
    for factor, term in rows:
        key = written(term)
        factors[key] = factors.get(key, 0) + factor
        terms[key] = term
    return SUM, tuple([(factors[key], terms[key]) for key in sorted(factors) if factors[key] != 0]), number


def added(facts, step):
    """Tell the sum by ("added", pairs, more), None where that is no step."""
    _, pairs, more = step
    if not isinstance(pairs, tuple) or not pairs or not is_whole(more) or more < 0:
        return None
    rows = []
    number = more
    for pair in pairs:
        if not isinstance(pair, tuple) or len(pair) != 2:
            return None
        fact = fact_at(facts, pair[0], SUM)
        times = pair[1]
        if fact is None or not is_whole(times) or times < 1:
            return None
        rows.extend([(times * factor, term) for factor, term in fact[1]])
        number = number + times * fact[2]
    return put_together(rows, number)


def cut(facts, step):
    """Tell the sum by ("cut", i, d), None where that is no step."""
    fact = fact_at(facts, step[1], SUM)
    divisor = step[2]
    if fact is None or not is_whole(divisor) or divisor < 1:
        return None
    if not all([factor % divisor == 0 for factor, _ in fact[1]]):
        return None
    return put_together([(factor // divisor, term) for factor, term in fact[1]], fact[2] // divisor)


def is_below(facts, end):
    """Tell whether ("below", i) shuts: whether that is a sum without rows, its number below 0."""
    fact = fact_at(facts, end[1], SUM)
    return fact is not None and not fact[1] and fact[2] < 0


def size_facts(term, number):
    """Tell the facts of the two cases by the size of a term: at most the number, at least one more."""
    return [(SUM, ((1, term),), number), (SUM, ((-1, term),), -number - 1)]
