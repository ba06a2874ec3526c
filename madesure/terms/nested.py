"""Things made of tuples within one another: whether they are alike, how they are written, how great they are.

They are walked by rows of what still waits: Python's own == and repr call themselves for each
tuple within a tuple, and told terms may be deeper than those may go.
"""


def are_alike(one, other):
    """Tell whether two things are alike; a truth and a whole number never are."""
    waiting = [(one, other)]
    while waiting:
        own, its = waiting.pop()
        if isinstance(own, tuple) and isinstance(its, tuple):
            if len(own) != len(its):
                return False
            waiting.extend(list(zip(own[::-1], its[::-1])))
        elif isinstance(own, bool) != isinstance(its, bool) or own != its:
            return False
    return True


def written(thing):
    """Tell the repr of a thing made of tuples, texts and whole numbers."""
    signs = []
    waiting = [(thing, False)]
    while waiting:
        node, is_sign = waiting.pop()
        if is_sign:
            signs.append(node)
        elif isinstance(node, tuple):
            waiting.extend(_rows_of(node)[::-1])
        else:
            signs.append(repr(node))
    return "".join(signs)


def is_within(thing, signs, depth):
    """Tell whether a thing has at most so many texts and numbers, and tuples within one another, itself one."""
    left = signs
    row = [thing]
    # Row by row and no deeper than may be: what has one part in many places grows with each row.
    for _ in range(depth + 1):
        tuples = [node for node in row if isinstance(node, tuple)]
        left -= len(row) - len(tuples)
        if left < 0:
            return False
        if not tuples:
            return True
        row = [inner for node in tuples for inner in node]
    return False


def _rows_of(node):
    """Tell the rows of which a tuple is written: (thing, False), and (sign, True) around and between."""
    rows = [("(", True)]
    for inner in node:
        rows.append((inner, False))
        rows.append((", ", True))
    if len(node) == 1:
        rows[-1] = (",", True)
    elif len(node) > 1:
        rows.pop()
    rows.append((")", True))
    return rows
