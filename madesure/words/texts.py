"""Stage 14: sheets, terms and formulas written as texts, and read."""

from madesure.errors import NoText
from madesure.terms.ground import Ground
from madesure.terms.terms import MOST_FORMULAS, are_names, check_formula, check_term, ground_of
from madesure.words.reading import formula_in, kinds_in, number_in, term_in
from madesure.words.writing import sheet_rows, written_text


def term_text(sheet, term):
    """Write a term of a sheet."""
    check_term(ground_of(sheet), term)
    return written_text(term)


def formula_text(sheet, formula):
    """Write a formula of a sheet."""
    check_formula(ground_of(sheet), formula)
    return written_text(formula)


def sheet_text(sheet):
    """Write a sheet: its rows, one a line."""
    ground_of(sheet)
    return "\n".join(sheet_rows(sheet))


def read_term(sheet, text):
    """Read a term of a sheet."""
    return term_in(ground_of(sheet), text)


def read_formula(sheet, text):
    """Read a formula of a sheet."""
    return formula_in(ground_of(sheet), text)


def read_sheet(text):
    """Read a sheet: rows of kinds, then of names, then of formulas."""
    if not isinstance(text, str):
        raise NoText("this is no text")
    rows = text.split("\n")
    kind_rows, rows = _parted(rows, "kind ")
    name_rows, rows = _parted(rows, "name ")
    put_rows, rows = _parted(rows, "put ")
    if rows or len(put_rows) > MOST_FORMULAS:
        raise NoText("these rows write no sheet")
    kinds = kinds_in(kind_rows)
    names = tuple([_name_in(row.split(" ")) for row in name_rows])
    if not are_names(kinds, names):
        raise NoText("these rows write no names")
    ground = Ground(kinds, names)
    formulas = [formula_in(ground, row.partition(" ")[2]) for row in put_rows]
    return kinds, names, tuple(formulas)


def _parted(rows, begin):
    """Tell the first of some rows that begin so, up to one that does not, and the others."""
    many = 0
    while many < len(rows) and rows[many].startswith(begin):
        many += 1
    return rows[:many], rows[many:]


def _name_in(words):
    """Read a name with its kind, and perhaps a most."""
    if len(words) == 3:
        return words[1], words[2], None
    most = number_in(words[3]) if len(words) == 4 else None
    if most is None:
        raise NoText("this writes no name")
    return words[1], words[2], most
