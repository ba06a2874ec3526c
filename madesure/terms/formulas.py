"""What is a formula, by the ground of its sheet."""

from madesure.terms.ground import terms_in
from madesure.terms.nested import is_within, written
from madesure.whole import is_whole

SAME = "same"
TEST = "test"
SUM = "sum"
NOT = "not"
BOTH = "both"
EITHER = "either"
MOST_ROWS = 6
MOST_FACTOR = 9
MOST_NUMBER = 500
MOST_SIGNS = 1000
MOST_DEPTH = 12
OWN_FORMULAS = {"not": 1, "both": 2, "either": 2}


def is_formula_on(ground, thing):
    """Tell whether a thing is a formula of a sheet with this ground, no greater than one may be there."""
    if not is_within(thing, MOST_SIGNS, MOST_DEPTH):
        return False
    waiting = [thing]
    while waiting:
        node = waiting.pop()
        if not isinstance(node, tuple) or not node or not isinstance(node[0], str):
            return False
        if node[0] in OWN_FORMULAS:
            if len(node) != OWN_FORMULAS[node[0]] + 1:
                return False
            waiting.extend(node[1:])
        elif not _is_plain(ground, node):
            return False
    return True


def is_sum_of(thing, is_own_term):
    """Tell whether a thing is a sum with factors and number as in a sheet, of terms that are such."""
    if not isinstance(thing, tuple) or len(thing) != 3 or thing[0] != SUM:
        return False
    rows, number = thing[1:]
    if not isinstance(rows, tuple) or len(rows) > MOST_ROWS or not _is_between(number, MOST_NUMBER):
        return False
    if not all([isinstance(row, tuple) and len(row) == 2 for row in rows]):
        return False
    if not all([_is_between(factor, MOST_FACTOR) and factor != 0 and is_own_term(term) for factor, term in rows]):
        return False
    return len({written(term) for _, term in rows}) == len(rows)


def _is_plain(ground, thing):
    """Tell whether a thing is a same, a test or a sum."""
    if len(thing) != 3:
        return False
    if thing[0] == SAME:
        kind = ground.kind_of(thing[1])
        return kind is not None and kind == ground.kind_of(thing[2])
    if thing[0] == TEST:
        return _is_test(ground, thing[1], thing[2])
    return is_sum_of(thing, lambda term: _has_mosts(ground, term))


def _is_test(ground, maker, term):
    if not isinstance(maker, str) or maker not in ground.makers:
        return False
    return ground.kind_of(term) == ground.makers[maker][0]


def _has_mosts(ground, thing):
    """Tell whether a thing is a term, all names in which have a most."""
    if ground.kind_of(thing) is None:
        return False
    names = [term for term in terms_in(thing) if isinstance(term, str)]
    return all([ground.names[name][1] is not None for name in names])


def _is_between(thing, most):
    return is_whole(thing) and -most <= thing <= most
