"""Kinds, odd things, and plain ways to tell the same as the program, for the tests."""

from itertools import combinations

BINARY = (("tree", (("node", ("tree", "tree")), ("leaf", ()))),)
CHAIN = (("chain", (("next", ("chain",)), ("end", ()))),)
LISTS = (
    ("list", (("cons", ("item", "list")), ("nil", ()))),
    ("item", (("count", ("mark",)), ("pair", ("item", "item")), ("sub", ("list",)))),
)
DAYS = (("day", (("mon", ()), ("tue", ()), ("wed", ()), ("thu", ()))),)
MIXED = (
    ("box", (("wrap", ("lid", "mark", "box")), ("bare", ("lid",)), ("void", ("lid",)))),
    ("lid", (("plain", ()), ("tagged", ("mark",)))),
)
LATER = (("late", (("long", ("side", "side")), ("tall", ("side",)), ("short", ()), ("brief", ()))),
         ("side", (("turn", ("mark",)), ("over", ("mark",)))))
GREAT = (
    ("a", (("fa", ("b", "b", "b")),)),
    ("b", (("fb", ("c", "c", "c")),)),
    ("c", (("fc", ("d", "d", "d")),)),
    ("d", (("fd", ("e", "e", "e")),)),
    ("e", (("fe", ("mark", "mark", "mark")),)),
)
ALL_KINDS = (BINARY, CHAIN, LISTS, DAYS, MIXED, LATER, GREAT)

LEAF = ("leaf",)
NEVER = (True, False, None, -1, "", "No name", [], {}, [()], {"tree": 1}, (None,), ((), ()))


def chain_of(length):
    """A tree of CHAIN with this many makers."""
    tree = ("end",)
    for _ in range(length - 1):
        tree = ("next", tree)
    return tree


def spoiled(thing, odd):
    """All things that are this one but for one thing in it, or itself, for which odd(it) stands."""
    yield odd(thing)
    if isinstance(thing, tuple):
        for place, inner in enumerate(thing):
            for other in spoiled(inner, odd):
                yield thing[:place] + (other,) + thing[place + 1:]


def spoiled_by_lists(thing):
    """All things that are this one but for one list in the place of a tuple."""
    return [other for other in spoiled(thing, lambda inner: list(inner) if isinstance(inner, tuple) else inner)
            if other != thing]


def plain_size(tree):
    if isinstance(tree, int):
        return 1
    return 1 + sum(plain_size(part) for part in tree[1:])


def trees_of_size(kinds, kind, size, marks):
    """All trees of a kind of one size, with marks below this, in order."""
    if kind == "mark":
        return list(range(marks)) if size == 1 else []
    return [(maker,) + parts for maker, wanted in dict(kinds)[kind]
            for parts in rows_of_size(kinds, wanted, size - 1, marks)]


def rows_of_size(kinds, wanted, size, marks):
    if not wanted:
        return [()] if size == 0 else []
    return [(first,) + rest for own in range(1, size + 1)
            for first in trees_of_size(kinds, wanted[0], own, marks)
            for rest in rows_of_size(kinds, wanted[1:], size - own, marks)]


def trees_in_order(kinds, kind, most, marks=2):
    return [tree for size in range(1, most + 1) for tree in trees_of_size(kinds, kind, size, marks)]


def plain_least(kinds, kind, depth=6):
    """The size of the least tree at most this deep, None where there is none."""
    if kind == "mark":
        return 1
    if depth == 0:
        return None
    sizes = [[plain_least(kinds, part, depth - 1) for part in parts] for _, parts in dict(kinds)[kind]]
    return min((1 + sum(row) for row in sizes if None not in row), default=None)


def leads_on(kinds, kind, behind=()):
    """Whether a kind leads to mark, or round to one that it came from."""
    if kind == "mark" or kind in behind:
        return True
    return any(leads_on(kinds, part, behind + (kind,)) for _, parts in dict(kinds)[kind] for part in parts)


def random_kinds(random):
    """What has the form of kinds; each may have no tree."""
    names = ["a", "b", "c", "d", "e"][:random.randint(1, 5)]
    rows = []
    for name in names:
        makers = []
        for place in range(random.randint(1, 4)):
            parts = [random.choice(names + ["mark"]) for _ in range(random.choice((0, 1, 1, 2, 3)))]
            makers.append((name + "xyzw"[place], tuple(parts)))
        rows.append((name, tuple(makers)))
    return tuple(rows)


def refusal(function, *args):
    """What a call is refused with, None where it is not."""
    try:
        function(*args)
    except (ValueError, LookupError) as error:
        return error
    return None


def check_refusals(case, function, good, bad):
    """Each row of bad arguments is refused by the error of its first one; bad has for each place (thing, error)s."""
    case.assertIsNone(refusal(function, *good))
    for many in range(1, len(good) + 1):
        for places in combinations([place for place in range(len(good)) if bad[place]], many):
            for pick in range(max(len(bad[place]) for place in places)):
                args = list(good)
                for place in places:
                    args[place] = bad[place][pick % len(bad[place])][0]
                wanted = bad[places[0]][pick % len(bad[places[0]])][1]
                case.assertIs(type(refusal(function, *args)), wanted, (function.__name__, args))
