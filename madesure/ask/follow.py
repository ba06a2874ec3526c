"""Stage 11: whether a formula follows from a sheet."""

from madesure.decide.search import WIDTH, check_width, decided
from madesure.papers.papers import shows_no_on
from madesure.terms.formulas import NOT
from madesure.terms.meaning import fits_on
from madesure.terms.terms import check_formula, ground_of


def follows(sheet, formula, *, most=WIDTH):
    """Tell ("yes", paper) of the sheet with the formula's not, or ("no", answer) by which it doesn't hold."""
    ground, formulas = _with_not(sheet, formula)
    check_width(ground, formulas, most)
    word, told = decided(ground, formulas)
    return ("yes", told) if word == "no" else ("no", told)


def shows_follows(sheet, formula, thing):
    """Tell whether a thing is yes with such a paper that is shut, or no with such an answer."""
    ground, formulas = _with_not(sheet, formula)
    if not isinstance(thing, tuple) or len(thing) != 2:
        return False
    if thing[0] == "no":
        return fits_on(ground, formulas, thing[1])
    return thing[0] == "yes" and shows_no_on(ground, formulas, thing[1], ())


def _with_not(sheet, formula):
    """Refuse what is no sheet, then what is no formula of it; else tell its ground, and its formulas with that not."""
    ground = ground_of(sheet)
    check_formula(ground, formula)
    return ground, sheet[2] + ((NOT, formula),)
