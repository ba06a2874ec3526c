"""Stage 4: answers, and what terms and formulas mean by them."""

from madesure.errors import NoAnswer
from madesure.terms.formulas import BOTH, EITHER, NOT, SAME, TEST
from madesure.terms.ground import PART, terms_in
from madesure.terms.nested import are_alike
from madesure.terms.terms import check_formula, check_term, ground_of
from madesure.trees.trees import is_tree, nodes_of


def is_answer(sheet, thing):
    """Tell whether a thing is an answer of a sheet."""
    return is_answer_on(ground_of(sheet), thing)


def worth_of(sheet, term, answer):
    """Tell the tree that a term of a sheet is worth by an answer."""
    ground = ground_of(sheet)
    check_term(ground, term)
    check_answer(ground, answer)
    return worth_on(ground, term, answer)


def holds(sheet, formula, answer):
    """Tell whether a formula of a sheet holds by an answer."""
    ground = ground_of(sheet)
    check_formula(ground, formula)
    check_answer(ground, answer)
    return holds_on(ground, formula, answer)


def first_false(sheet, answer):
    """Tell the number of the first formula of a sheet that does not hold by an answer, None where all hold."""
    ground = ground_of(sheet)
    check_answer(ground, answer)
    return first_false_on(ground, sheet[2], answer)


def fits_on(ground, formulas, thing):
    """Tell whether a thing is an answer by which formulas hold."""
    return is_answer_on(ground, thing) and first_false_on(ground, formulas, thing) is None


def first_false_on(ground, formulas, answer):
    """Tell the number of the first of some formulas that does not hold by an answer, None where all hold."""
    for number, formula in enumerate(formulas):
        if not holds_on(ground, formula, answer):
            return number
    return None


def is_answer_on(ground, thing):
    """Tell whether a thing is an answer of a sheet with this ground."""
    if not isinstance(thing, dict) or len(thing) != len(ground.names):
        return False
    if not all([name in thing for name in ground.names]):
        return False
    for name, (kind, most) in ground.names.items():
        if not is_tree(ground.rows, kind, thing[name]):
            return False
        if most is not None and len(nodes_of(thing[name])) > most:
            return False
    return True


def worth_on(ground, term, answer):
    """Tell the tree that a term is worth by an answer."""
    trees = []
    for node in reversed(terms_in(term)):
        if isinstance(node, str):
            trees.append(answer[node])
        elif not isinstance(node, tuple):
            trees.append(node)
        elif node[0] == PART:
            trees.append(_part_of(ground, node[1], node[2], trees.pop()))
        else:
            parts = [trees.pop() for _ in node[1:]]
            trees.append((node[0], *parts))
    return trees.pop()


def holds_on(ground, formula, answer):
    """Tell whether a formula holds by an answer."""
    word = formula[0]
    if word == NOT:
        return not holds_on(ground, formula[1], answer)
    if word == BOTH:
        return holds_on(ground, formula[1], answer) and holds_on(ground, formula[2], answer)
    if word == EITHER:
        return holds_on(ground, formula[1], answer) or holds_on(ground, formula[2], answer)
    if word == SAME:
        return are_alike(worth_on(ground, formula[1], answer), worth_on(ground, formula[2], answer))
    if word == TEST:
        return worth_on(ground, formula[2], answer)[0] == formula[1]
    sizes = [factor * len(nodes_of(worth_on(ground, term, answer))) for factor, term in formula[1]]
    return sum(sizes) <= formula[2]


def _part_of(ground, maker, k, tree):
    if tree[0] == maker:
        return tree[k + 1]
    return ground.least[ground.makers[maker][2][k]]


def check_answer(ground, answer):
    """Refuse what is no answer."""
    if not is_answer_on(ground, answer):
        raise NoAnswer("this is no answer of the sheet")
