"""Stage 4: names, terms, formulas, sheets."""

from madesure.errors import NoFormula, NoKind, NoNames, NoSheet, NoTerm, SureError
from madesure.kinds.kinds import MARK, check_kinds, is_name
from madesure.terms.formulas import is_formula_on
from madesure.terms.ground import Ground
from madesure.whole import is_whole

MOST_NAMES = 6
MOST_MOST = 40
MOST_FORMULAS = 10


def are_names(kinds, thing):
    """Tell whether a thing is names, each with its kind and its most."""
    check_kinds(kinds)
    if not isinstance(thing, tuple) or len(thing) > MOST_NAMES:
        return False
    makers = [maker for _, row in kinds for maker, _ in row]
    taken = [kind for kind, _ in kinds] + makers
    if not all([_is_named(kinds, row) and row[0] not in taken for row in thing]):
        return False
    return len({row[0] for row in thing}) == len(thing)


def is_term(sheet, thing, *, kind=None):
    """Tell whether a thing is a term of a sheet, of a kind, if that is told."""
    ground = ground_of(sheet)
    if kind is not None and not _is_kind(sheet[0], kind):
        raise NoKind("this is no kind")
    told = ground.kind_of(thing)
    return told is not None and (kind is None or told == kind)


def is_formula(sheet, thing):
    """Tell whether a thing is a formula that may stand in a sheet."""
    return is_formula_on(ground_of(sheet), thing)


def is_sheet(thing):
    """Tell whether a thing is a sheet."""
    try:
        ground_of(thing)
    except SureError:
        return False
    return True


def kind_of(sheet, term):
    """Tell the kind of a term of a sheet."""
    return check_term(ground_of(sheet), term)


def ground_of(sheet):
    """Refuse what is no sheet, else tell its ground."""
    if not isinstance(sheet, tuple) or len(sheet) != 3:
        raise NoSheet("this is no triple")
    kinds, names, formulas = sheet
    if not are_names(kinds, names):
        raise NoNames("these are no names")
    if not isinstance(formulas, tuple) or len(formulas) > MOST_FORMULAS:
        raise NoFormula(-1)
    ground = Ground(kinds, names)
    for number, formula in enumerate(formulas):
        if not is_formula_on(ground, formula):
            raise NoFormula(number)
    return ground


def check_term(ground, term):
    """Refuse what is no term, else tell its kind."""
    kind = ground.kind_of(term)
    if kind is None:
        raise NoTerm("this is no term of the sheet")
    return kind


def check_formula(ground, formula):
    """Refuse what is no formula."""
    if not is_formula_on(ground, formula):
        raise NoFormula(0)


def _is_kind(kinds, thing):
    return isinstance(thing, str) and (thing == MARK or thing in dict(kinds))


def _is_named(kinds, thing):
    """Tell whether a thing is a name with a kind and a most."""
    if not isinstance(thing, tuple) or len(thing) != 3:
        return False
    name, kind, most = thing
    if not is_name(name) or not _is_kind(kinds, kind):
        return False
    return most is None or is_whole(most) and 0 <= most <= MOST_MOST
