"""Stage 1: names, kinds and their makers."""

from madesure.errors import NoKind, NoKinds, NoMaker

MARK = "mark"
WORDS = ("mark", "part", "same", "test", "sum", "not", "both", "either")
MOST_LETTERS = 8
MOST_KINDS = 5
MOST_MAKERS = 4
MOST_PARTS = 3


def is_name(thing):
    """Tell whether a thing is a name: one to eight small letters, no word."""
    if not isinstance(thing, str) or not 1 <= len(thing) <= MOST_LETTERS:
        return False
    return thing not in WORDS and all(["a" <= letter <= "z" for letter in thing])


def is_kinds(thing):
    """Tell whether a thing is kinds, each of which has some tree."""
    if not _is_row(thing, 1, MOST_KINDS):
        return False
    if not all([_is_named(named, 1, MOST_MAKERS) for named in thing]):
        return False
    makers = [named for _, row in thing for named in row]
    if not all([_is_named(named, 0, MOST_PARTS) for named in makers]):
        return False
    return _are_names_unlike(thing) and _are_parts_kinds(thing) and _have_trees(thing)


def makers_of(kinds, kind):
    """Tell the (maker, parts) of a kind, as they stand; of mark none."""
    check_kind(kinds, kind)
    return dict(kinds).get(kind, ())


def kind_by(kinds, maker):
    """Tell the kind whose trees a maker makes."""
    check_maker(kinds, maker)
    return maker_table(kinds)[maker][0]


def least_size(kinds, kind):
    """Tell the size of the least tree of a kind."""
    check_kind(kinds, kind)
    return least_sizes(kinds)[kind]


def is_finite(kinds, kind):
    """Tell whether a kind has no endless row of unlike trees."""
    check_kind(kinds, kind)
    finite = []
    # A kind is finite where all its parts' kinds are: one that leads to mark or round to
    # itself never comes to be so, and each other does in as many rounds as there are kinds.
    for _ in kinds:
        finite = [name for name, makers in kinds if _has_all_parts(makers, finite)]
    return kind in finite


def check_kinds(kinds):
    """Refuse what is no kinds."""
    if not is_kinds(kinds):
        raise NoKinds("these are no kinds")


def check_kind(kinds, kind):
    """Refuse what is no kinds, then what is none of them, nor mark."""
    check_kinds(kinds)
    if kind != MARK and kind not in _kind_names(kinds):
        raise NoKind("this is no kind")


def check_maker(kinds, maker):
    """Refuse what is no kinds, then what is no maker of them."""
    check_kinds(kinds)
    if maker not in _maker_names(kinds):
        raise NoMaker("this is no maker")


def maker_table(kinds):
    """Tell for each maker its kind, its place among that kind's makers, and its parts."""
    table = {}
    for kind, makers in kinds:
        for place, (maker, parts) in enumerate(makers):
            table[maker] = (kind, place, parts)
    return table


def least_sizes(kinds):
    """Tell for mark, and for each kind that has a tree, the size of its least one."""
    sizes = {MARK: 1}
    # No kind stands within its own least tree: so that is found in as many rounds as there are kinds.
    for _ in kinds:
        for kind, makers in kinds:
            found = [size_made(sizes, parts) for _, parts in makers if _are_in(parts, sizes)]
            if found:
                sizes[kind] = min(found)
    return sizes


def size_made(sizes, parts):
    """Tell the size of a tree made of parts of these kinds, each of the size that its kind has here."""
    return 1 + sum([sizes[part] for part in parts])


def _is_row(thing, least, most):
    return isinstance(thing, tuple) and least <= len(thing) <= most


def _is_named(thing, least, most):
    """Tell whether a thing is a name and a row of least to most things."""
    return _is_row(thing, 2, 2) and is_name(thing[0]) and _is_row(thing[1], least, most)


def _kind_names(kinds):
    return [kind for kind, _ in kinds]


def _maker_names(kinds):
    return [maker for _, makers in kinds for maker, _ in makers]


def _are_names_unlike(kinds):
    names = _kind_names(kinds) + _maker_names(kinds)
    return len(set(names)) == len(names)


def _are_parts_kinds(kinds):
    names = [MARK] + _kind_names(kinds)
    return all([_has_all_parts(makers, names) for _, makers in kinds])


def _has_all_parts(makers, names):
    return all([_are_in(parts, names) for _, parts in makers])


def _are_in(parts, names):
    return all([part in names for part in parts])


def _have_trees(kinds):
    sizes = least_sizes(kinds)
    return all([kind in sizes for kind in _kind_names(kinds)])
