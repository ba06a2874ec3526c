"""Terms, formulas and sheets written in words."""

from madesure.terms.formulas import SUM


def written_text(thing):
    """Write a term or a formula: its words in order, one blank between."""
    words = []
    waiting = [thing]
    while waiting:
        node = waiting.pop()
        if isinstance(node, tuple):
            waiting.extend(_in_order(node)[::-1])
        else:
            words.append(str(node))
    return " ".join(words)


def sheet_rows(sheet):
    """Write the rows of a sheet: kinds, names, formulas."""
    kinds, names, formulas = sheet
    rows = ["kind " + name + " " + _makers_text(makers) for name, makers in kinds]
    rows.extend([" ".join(["name", name, kind] + _most_words(most)) for name, kind, most in names])
    rows.extend(["put " + written_text(formula) for formula in formulas])
    return rows


def _in_order(node):
    """Tell what a tuple is written of, in order."""
    if node[0] != SUM:
        return list(node)
    word, rows, number = node
    return [word, len(rows)] + [thing for row in rows for thing in row] + [number]


def _makers_text(makers):
    return " , ".join([" ".join([maker, *parts]) for maker, parts in makers])


def _most_words(most):
    return [] if most is None else [str(most)]
