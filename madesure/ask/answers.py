"""Stage 12: least answers, and all answers to a size."""

from madesure.ask.dicts import Dicts
from madesure.decide.search import WIDTH, check_width, decided, width_on
from madesure.errors import NoAnswer, NoNumber, TooMany, TooWide
from madesure.papers.papers import shows_no, shows_no_on
from madesure.terms.formulas import SUM
from madesure.terms.ground import Ground
from madesure.terms.meaning import check_answer, first_false_on, fits_on
from madesure.terms.terms import MOST_MOST, ground_of
from madesure.trees.counts import MARKS, MOST_MARKS
from madesure.trees.trees import nodes_of
from madesure.whole import is_mark, is_number_to

MANY = 5000


def least(sheet, *, most=WIDTH):
    """Tell ("least", answer, paper) of an answer of least size and why none is smaller, or ("no", paper)."""
    ground = ground_of(sheet)
    check_width(ground, sheet[2], most)
    told = decided(ground, sheet[2])
    if told[0] == "no":
        return told
    # Of sheets within ever more the width falls never: so an answer beyond this size is too great, however small it is.
    size = MOST_MOST
    while _width_within(sheet, ground, size - 1) > most:
        size -= 1
    word, answer = _decided_within(sheet, ground, size)
    if word == "no":
        raise TooWide("the least answer is too great")
    while True:
        word, told = _decided_within(sheet, ground, _size_of(answer) - 1)
        if word == "no":
            return "least", answer, told
        answer = told


def shows_least(sheet, thing):
    """Tell whether a thing is least with an answer and why none is smaller, or no with a paper that is shut."""
    ground = ground_of(sheet)
    if not isinstance(thing, tuple) or len(thing) not in (2, 3):
        return False
    if len(thing) == 2:
        return thing[0] == "no" and shows_no(sheet, thing[1])
    word, answer, paper = thing
    if word != "least" or not fits_on(ground, sheet[2], answer):
        return False
    inner_ground, formulas = _within(sheet, ground, _size_of(answer) - 1)
    return shows_no_on(inner_ground, formulas, paper, ())


def many_answers(sheet, n, *, marks=MARKS):
    """Tell how many answers to a size there are, marked below marks."""
    ground = _check_size(sheet, n)
    _check_marks(marks)
    return len(_all_answers(sheet, ground, n, marks))


def answer_at(sheet, n, number, *, marks=MARKS):
    """Tell the answer with a number among those to a size, marked below marks, in order."""
    ground = _check_size(sheet, n)
    if not is_mark(number):
        raise NoNumber(number)
    if not is_number_to(marks, MOST_MARKS):
        _check_at_most_marks(sheet, ground, n, number)
    _check_marks(marks)
    rows = _all_answers(sheet, ground, n, marks)
    if number >= len(rows):
        raise NoNumber(number)
    return rows[number]


def answer_number(sheet, n, answer, *, marks=MARKS):
    """Tell the number of an answer among those to a size, marked below marks, in order."""
    ground = _check_size(sheet, n)
    check_answer(ground, answer)
    if not is_number_to(marks, MOST_MARKS):
        _check_answer(ground, sheet[2], n, answer, MOST_MARKS)
    _check_marks(marks)
    rows = _all_answers(sheet, ground, n, marks)
    _check_answer(ground, sheet[2], n, answer, marks)
    return [number for number, row in enumerate(rows) if row == answer][0]


def _within(sheet, ground, n):
    """Tell the ground and the formulas of a sheet within n."""
    kinds, names, formulas = sheet
    total = sum([ground.sizes[kind] for _, kind, _ in names])
    rows = []
    for name, kind, most in names:
        room = n - total + ground.sizes[kind]
        rows.append((name, kind, room if most is None else min(most, room)))
    together = (SUM, tuple([(1, name) for name, _, _ in names]), n)
    return Ground(kinds, tuple(rows)), formulas + (together,)


def _width_within(sheet, ground, n):
    inner_ground, formulas = _within(sheet, ground, n)
    return width_on(inner_ground, formulas)


def _decided_within(sheet, ground, n):
    inner_ground, formulas = _within(sheet, ground, n)
    return decided(inner_ground, formulas)


def _size_of(answer):
    """Tell the size together of the trees of an answer."""
    return sum([len(nodes_of(tree)) for tree in answer.values()])


def _all_answers(sheet, ground, n, marks):
    """Tell all answers to a size, in order; refuse too many dicts to look at."""
    dicts = Dicts(ground, n, marks)
    if dicts.how_many() > MANY:
        raise TooMany("there are too many dicts to look at")
    return [told for told in dicts.all_dicts() if first_false_on(ground, sheet[2], told) is None]


def _check_size(sheet, n):
    """Refuse what is no sheet, then what is no size; else tell the ground."""
    ground = ground_of(sheet)
    if not is_number_to(n, MOST_MOST):
        raise NoNumber(n)
    return ground


def _check_marks(marks):
    """Refuse what are no marks."""
    if not is_number_to(marks, MOST_MARKS):
        raise NoNumber(marks)


def _check_at_most_marks(sheet, ground, n, number):
    """Refuse a number that there isn't by any marks: it is handed in ahead of marks."""
    if Dicts(ground, n, MOST_MARKS).how_many() <= MANY:
        if number >= len(_all_answers(sheet, ground, n, MOST_MARKS)):
            raise NoNumber(number)


def _check_answer(ground, formulas, n, answer, marks):
    """Refuse what is not among the answers to a size, marked below marks."""
    if first_false_on(ground, formulas, answer) is not None or _size_of(answer) > n:
        raise NoAnswer("this is no answer to that size")
    nodes = [node for tree in answer.values() for node in nodes_of(tree)]
    if not all([isinstance(node, tuple) or node < marks for node in nodes]):
        raise NoAnswer("this answer has other marks")
