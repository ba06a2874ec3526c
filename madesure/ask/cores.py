"""Stage 11: cores, formulas by which a sheet can't be, of which none can be left out."""

from madesure.decide.search import WIDTH, check_width, decided
from madesure.errors import NoCore
from madesure.papers.papers import shows_no_on
from madesure.papers.walking import papers_in
from madesure.terms.meaning import fits_on
from madesure.terms.terms import ground_of
from madesure.whole import is_whole


def core(sheet, *, most=WIDTH):
    """Tell (numbers, paper, answers): the formulas of a core, its paper, and for each an answer by the others."""
    ground = ground_of(sheet)
    check_width(ground, sheet[2], most)
    numbers = list(range(len(sheet[2])))
    word, told = decided(ground, sheet[2])
    if word == "yes":
        raise NoCore("the sheet has an answer")
    numbers = _gone_by(told, numbers)
    answers = {}
    # One that can't be left out of more can't be left out of less: so each is looked at once.
    while len(answers) < len(numbers):
        number = [other for other in numbers if other not in answers][0]
        others = [other for other in numbers if other != number]
        word, told = decided(ground, _picked(sheet, others))
        if word == "yes":
            answers[number] = told
        else:
            numbers = _gone_by(told, others)
    _, paper = decided(ground, _picked(sheet, numbers))
    return tuple(numbers), paper, tuple([answers[number] for number in numbers])


def shows_core(sheet, thing):
    """Tell whether a thing is a core of a sheet, with its paper and its answers."""
    ground = ground_of(sheet)
    if not isinstance(thing, tuple) or len(thing) != 3:
        return False
    numbers, paper, answers = thing
    if not _are_rising(numbers, len(sheet[2])) or not shows_no_on(ground, _picked(sheet, numbers), paper, ()):
        return False
    if not isinstance(answers, tuple) or len(answers) != len(numbers):
        return False
    others = [[other for other in numbers if other != number] for number in numbers]
    return all([fits_on(ground, _picked(sheet, row), answer) for row, answer in zip(others, answers)])


def _picked(sheet, numbers):
    """Tell the formulas with these numbers."""
    return tuple([sheet[2][number] for number in numbers])


def _gone_by(paper, numbers):
    """Tell those of some numbers of formulas by which a paper goes, in which they are numbered anew."""
    steps = [step for _, _, (inner, _) in papers_in(paper, 0) for step in inner]
    given = {step[1]: True for step in steps if step[0] == "given"}
    return [number for at, number in enumerate(numbers) if at in given]


def _are_rising(thing, many):
    """Tell whether a thing is a row of numbers below many, rising."""
    if not isinstance(thing, tuple) or not all([is_whole(number) and 0 <= number < many for number in thing]):
        return False
    return all([one < other for one, other in zip(thing, thing[1:])])
