"""Kinds, odd things, and plain ways to tell the same as the program, for the tests."""

from itertools import combinations

from madesure.errors import NoFormula, NoKinds, NoNames, NoNumber, NoSheet
from madesure.kinds.kinds import is_kinds
from madesure.terms.meaning import holds

BINARY = (("tree", (("node", ("tree", "tree")), ("leaf", ()))),)
CHAIN = (("chain", (("next", ("chain",)), ("end", ()))),)
LISTS = (
    ("list", (("cons", ("item", "list")), ("nil", ()))),
    ("item", (("count", ("mark",)), ("pair", ("item", "item")), ("sub", ("list",)))),
)
DAYS = (("day", (("mon", ()), ("tue", ()), ("wed", ()), ("thu", ()))),)
MIXED = (
    ("box", (("wrap", ("lid", "mark", "box")), ("bare", ("lid",)), ("void", ("lid",)))),
    ("lid", (("plain", ()), ("tagged", ("mark",)))),
)
LATER = (("late", (("long", ("side", "side")), ("tall", ("side",)), ("short", ()), ("brief", ()))),
         ("side", (("turn", ("mark",)), ("over", ("mark",)))))
GREAT = (
    ("a", (("fa", ("b", "b", "b")),)),
    ("b", (("fb", ("c", "c", "c")),)),
    ("c", (("fc", ("d", "d", "d")),)),
    ("d", (("fd", ("e", "e", "e")),)),
    ("e", (("fe", ("mark", "mark", "mark")),)),
)
ALL_KINDS = (BINARY, CHAIN, LISTS, DAYS, MIXED, LATER, GREAT)

LEAF = ("leaf",)
NEVER = (True, False, None, -1, "", "No name", [], {}, [()], {"tree": 1}, (None,), ((), ()))


def chain_of(length):
    """A tree of CHAIN with this many makers."""
    tree = ("end",)
    for _ in range(length - 1):
        tree = ("next", tree)
    return tree


def spoiled(thing, odd):
    """All things that are this one but for one thing in it, or itself, for which odd(it) stands."""
    yield odd(thing)
    if isinstance(thing, tuple):
        for place, inner in enumerate(thing):
            for other in spoiled(inner, odd):
                yield thing[:place] + (other,) + thing[place + 1:]


def spoiled_by_lists(thing):
    """All things that are this one but for one list in the place of a tuple."""
    return [other for other in spoiled(thing, lambda inner: list(inner) if isinstance(inner, tuple) else inner)
            if other != thing]


def plain_size(tree):
    if isinstance(tree, int):
        return 1
    return 1 + sum(plain_size(part) for part in tree[1:])


def trees_of_size(kinds, kind, size, marks):
    """All trees of a kind of one size, with marks below this, in order."""
    if kind == "mark":
        return list(range(marks)) if size == 1 else []
    return [(maker,) + parts for maker, wanted in dict(kinds)[kind]
            for parts in rows_of_size(kinds, wanted, size - 1, marks)]


def rows_of_size(kinds, wanted, size, marks):
    if not wanted:
        return [()] if size == 0 else []
    return [(first,) + rest for own in range(1, size + 1)
            for first in trees_of_size(kinds, wanted[0], own, marks)
            for rest in rows_of_size(kinds, wanted[1:], size - own, marks)]


def trees_in_order(kinds, kind, most, marks=2):
    return [tree for size in range(1, most + 1) for tree in trees_of_size(kinds, kind, size, marks)]


def plain_least(kinds, kind, depth=6):
    """The size of the least tree at most this deep, None where there is none."""
    if kind == "mark":
        return 1
    if depth == 0:
        return None
    sizes = [[plain_least(kinds, part, depth - 1) for part in parts] for _, parts in dict(kinds)[kind]]
    return min((1 + sum(row) for row in sizes if None not in row), default=None)


def leads_on(kinds, kind, behind=()):
    """Whether a kind leads to mark, or round to one that it came from."""
    if kind == "mark" or kind in behind:
        return True
    return any(leads_on(kinds, part, behind + (kind,)) for _, parts in dict(kinds)[kind] for part in parts)


def random_kinds(random):
    """What has the form of kinds; each may have no tree."""
    names = ["a", "b", "c", "d", "e"][:random.randint(1, 5)]
    rows = []
    for name in names:
        makers = []
        for place in range(random.randint(1, 4)):
            parts = [random.choice(names + ["mark"]) for _ in range(random.choice((0, 1, 1, 2, 3)))]
            makers.append((name + "xyzw"[place], tuple(parts)))
        rows.append((name, tuple(makers)))
    return tuple(rows)


def refusal(function, *args):
    """What a call is refused with, None where it is not."""
    try:
        function(*args)
    except (ValueError, LookupError) as error:
        return error
    return None


def check_refusals(case, function, good, bad):
    """Each row of bad arguments is refused by the error of its first one; bad has for each place (thing, error)s."""
    case.assertIsNone(refusal(function, *good))
    for many in range(1, len(good) + 1):
        for places in combinations([place for place in range(len(good)) if bad[place]], many):
            for pick in range(max(len(bad[place]) for place in places)):
                args = list(good)
                for place in places:
                    args[place] = bad[place][pick % len(bad[place])][0]
                wanted = bad[places[0]][pick % len(bad[places[0]])][1]
                error = refusal(function, *args)
                case.assertIs(type(error), wanted, (function.__name__, args))
                if wanted is NoNumber:
                    case.assertIs(error.number, args[places[0]], (function.__name__, args))


NAMES = (("x", "tree", 9), ("y", "tree", None), ("z", "tree", 5), ("m", "mark", 1), ("n", "mark", None))
FORMULAS = (("same", "x", ("node", "y", "z")), ("sum", ((2, "x"), (-1, ("part", "node", 0, "z"))), 7),
            ("not", ("test", "leaf", "x")), ("either", ("same", "m", 3), ("both", ("test", "node", "y"), ("sum", (), 0))))
SHEET = (BINARY, NAMES, FORMULAS)
# No sheets: each with the class of the error and, of NoFormula, its number.
BAD_SHEETS = tuple((thing, NoSheet, None) for thing in NEVER + ((), (BINARY, NAMES), SHEET + ((),), list(SHEET), "abc")) + (
    ((None, None, None), NoKinds, None), (((), (), ()), NoKinds, None), ((list(BINARY), NAMES, FORMULAS), NoKinds, None),
    ((NAMES, BINARY, FORMULAS), NoKinds, None), ((BINARY, None, None), NoNames, None),
    ((BINARY, list(NAMES), FORMULAS), NoNames, None), ((BINARY, FORMULAS, NAMES), NoNames, None),
    ((BINARY, (("tree", "tree", None),), FORMULAS), NoNames, None),
    ((BINARY, NAMES, None), NoFormula, -1), ((BINARY, NAMES, list(FORMULAS)), NoFormula, -1),
    ((BINARY, NAMES, {}), NoFormula, -1), ((BINARY, NAMES, (FORMULAS[1],) * 11), NoFormula, -1),
    ((BINARY, NAMES, (None,) * 11), NoFormula, -1),
    ((BINARY, NAMES, FORMULAS[0]), NoFormula, 0), ((BINARY, NAMES, (None,)), NoFormula, 0),
    ((BINARY, NAMES, FORMULAS + (("same", "x", "m"), None)), NoFormula, 4), ((BINARY, (), FORMULAS), NoFormula, 0),
    ((BINARY, NAMES, (("sum", ((1, "y"),), 0),) * 10), NoFormula, 0),
    ((BINARY, NAMES, (FORMULAS[1],) * 9 + (("not", True),)), NoFormula, 9))


def check_sheets_refused(case, function, *others):
    """Each thing that is no sheet is refused by its error, whatever is handed in behind it."""
    for thing, wanted, number in BAD_SHEETS:
        for rest in others:
            error = refusal(function, thing, *rest)
            case.assertIs(type(error), wanted, (function.__name__, thing, rest))
            case.assertEqual(getattr(error, "number", None), number, (function.__name__, thing, rest))


def plain_kind(sheet, thing):
    """The kind of a thing as a term of a sheet, None of what is no term."""
    kinds, names, _ = sheet
    if isinstance(thing, str):
        return {name: kind for name, kind, _ in names}.get(thing)
    if type(thing) is int:
        return "mark" if thing >= 0 else None
    if not isinstance(thing, tuple) or not thing:
        return None
    for kind, makers in kinds:
        for maker, parts in makers:
            if len(thing) == 4 and thing[:2] == ("part", maker) and type(thing[2]) is int and 0 <= thing[2] < len(parts):
                return parts[thing[2]] if plain_kind(sheet, thing[3]) == kind else None
            if type(thing[0]) is str and thing[0] == maker:
                return kind if [plain_kind(sheet, inner) for inner in thing[1:]] == list(parts) else None
    return None


def random_term(random, sheet, kind, depth):
    """A term of a kind, None where none is found."""
    kinds, names, _ = sheet
    own = [name for name, its, _ in names if its == kind]
    choices = [name for name in own] * 2
    if kind == "mark":
        choices += [random.randint(0, 2)]
    if depth > 0:
        for its, makers in kinds:
            for maker, parts in makers:
                if its == kind:
                    choices.append((maker,) + tuple(random_term(random, sheet, part, depth - 1) for part in parts))
                for k, part in enumerate(parts):
                    if part == kind and random.random() < 0.4:
                        choices.append(("part", maker, k, random_term(random, sheet, its, depth - 1)))
    choices = [term for term in choices if plain_kind(sheet, term) == kind]
    return random.choice(choices) if choices else None


def random_formula(random, sheet, depth):
    """A formula, None where none is found."""
    kinds = sheet[0]
    word = random.choice(("same", "same", "test", "sum") + ("not", "both", "either") * (depth > 1))
    if word in ("not", "both", "either"):
        inner = [random_formula(random, sheet, depth - 1) for _ in range(1 if word == "not" else 2)]
        return None if None in inner else (word, *inner)
    kind, makers = random.choice(kinds + (("mark", ()),))
    terms = [random_term(random, sheet, kind, 2) for _ in range(2)]
    if None in terms:
        return None
    if word == "same":
        return ("same", *terms)
    if word == "test":
        return ("test", random.choice(makers)[0], terms[0]) if makers else None
    bound = [name for name, _, most in sheet[1] if most is not None]
    rows = {}
    for _ in range(random.randint(0, 3)):
        term = random_term(random, sheet, random.choice(kinds)[0], 2)
        if term is not None and all(name in bound for name in names_in(term)):
            rows[repr(term)] = (random.choice((-2, -1, 1, 1, 3)), term)
    return ("sum", tuple(rows.values()), random.randint(-6, 12))


def names_in(term):
    """The names in a term."""
    if isinstance(term, str):
        return [term]
    inner = term[3:] if isinstance(term, tuple) and term[0] == "part" else term[1:] if isinstance(term, tuple) else ()
    return [name for own in inner for name in names_in(own)]


def plain_worth(sheet, term, answer):
    """The tree that a term is worth."""
    if isinstance(term, str):
        return answer[term]
    if isinstance(term, int):
        return term
    if term[0] != "part":
        return (term[0],) + tuple(plain_worth(sheet, own, answer) for own in term[1:])
    tree = plain_worth(sheet, term[3], answer)
    if tree[0] == term[1]:
        return tree[term[2] + 1]
    part = [parts[term[2]] for _, makers in sheet[0] for maker, parts in makers if maker == term[1]][0]
    return trees_in_order(sheet[0], part, plain_least(sheet[0], part), 1)[0]


def plain_holds(sheet, formula, answer):
    """Whether a formula, or a fact, holds by an answer."""
    word = formula[0]
    if word == "not":
        return not plain_holds(sheet, formula[1], answer)
    if word == "both":
        return plain_holds(sheet, formula[1], answer) and plain_holds(sheet, formula[2], answer)
    if word == "either":
        return plain_holds(sheet, formula[1], answer) or plain_holds(sheet, formula[2], answer)
    if word == "same":
        return plain_worth(sheet, formula[1], answer) == plain_worth(sheet, formula[2], answer)
    if word == "test":
        return plain_worth(sheet, formula[2], answer)[0] == formula[1]
    return sum(factor * plain_size(plain_worth(sheet, term, answer)) for factor, term in formula[1]) <= formula[2]


def random_sheet(random, kinds=None, names=3, formulas=3):
    """A sheet with few names, of kinds as handed in or of random ones."""
    while kinds is None or not is_kinds(kinds):
        kinds = random_kinds(random)
    choices = [kind for kind, _ in kinds] + ["mark"]
    rows = tuple((name, random.choice(choices), random.choice((None, 0, 1, 2, 3, 5, 8)))
                 for name in ("x", "y", "z", "u", "v", "w")[:random.randint(0, names)])
    sheet = (kinds, rows, ())
    found = [random_formula(random, sheet, 3) for _ in range(random.randint(0, formulas))]
    return (kinds, rows, tuple(formula for formula in found if formula is not None))


def answers_to(sheet, most, marks=2, limit=400):
    """Dicts with a tree of at most this size for each name, within its most, marks below this; the first ones."""
    rows = [{}]
    for name, kind, bound in sheet[1]:
        trees = trees_in_order(sheet[0], kind, most if bound is None else min(most, bound), marks)
        rows = [dict(row, **{name: tree}) for row in rows for tree in trees[:limit]][:limit]
    return rows


def all_of(formulas):
    """One formula that holds where all of these do, no deeper than need be."""
    formulas = list(formulas)
    if len(formulas) == 1:
        return formulas[0]
    half = len(formulas) // 2
    return ("both", all_of(formulas[:half]), all_of(formulas[half:]))


def unlike(one, other):
    return ("not", ("same", one, other))


def exactly(number, *rows):
    """The two sums by which rows come to a number."""
    turned = tuple((-factor, term) for factor, term in rows)
    return ("sum", tuple(rows), number), ("sum", turned, -number)


def chain_on(term, many):
    """A term of CHAIN with so many makers around another one."""
    for _ in range(many):
        term = ("next", term)
    return term


def doubled(term, many):
    """A term of BINARY, the two parts of which are alike, so many times over."""
    for _ in range(many):
        term = ("node", term, term)
    return term


def depth_of(thing):
    """How many tuples stand within one another in a thing."""
    depth = 0
    row = [thing]
    while any(isinstance(inner, tuple) for inner in row):
        depth += 1
        row = list({id(inner): inner for node in row if isinstance(node, tuple) for inner in node}.values())
    return depth


def great_size(tree):
    """The size of a tree in which parts stand in many places."""
    sizes = {}

    def size_of(node):
        if isinstance(node, int):
            return 1
        if id(node) not in sizes:
            sizes[id(node)] = 1 + sum(size_of(part) for part in node[1:])
        return sizes[id(node)]
    return size_of(tree)


def fits_plainly(sheet, answer):
    """Whether a dict is an answer by which all formulas hold."""
    if set(answer) != {name for name, _, _ in sheet[1]}:
        return False
    for name, kind, most in sheet[1]:
        if not is_tree_plainly(sheet[0], kind, answer[name]) or most is not None and plain_size(answer[name]) > most:
            return False
    return all(plain_holds(sheet, formula, answer) for formula in sheet[2])


def is_tree_plainly(kinds, kind, tree):
    if kind == "mark":
        return type(tree) is int and tree >= 0
    parts = dict(dict(kinds)[kind]).get(tree[0]) if isinstance(tree, tuple) and tree else None
    if parts is None or len(tree) != len(parts) + 1:
        return False
    return all(is_tree_plainly(kinds, part, inner) for part, inner in zip(parts, tree[1:]))


def near_sheet(random, kinds=None, names=3, formulas=4):
    """A sheet and an answer by which most of its formulas hold, often all."""
    while kinds is None or not is_kinds(kinds):
        kinds = random_kinds(random)
    planted = {}
    rows = []
    for name in ("x", "y", "z", "u", "v", "w")[:random.randint(1, names)]:
        kind = random.choice([kind for kind, _ in kinds] + ["mark"])
        trees = trees_in_order(kinds, kind, 5, 2)
        if trees:
            planted[name] = random.choice(trees[:30])
            size = plain_size(planted[name])
            rows.append((name, kind, random.choice((None, size, size + 1, size + 3))))
    sheet = (kinds, tuple(rows), ())
    found = []
    for _ in range(random.randint(1, formulas)):
        own = [random_formula(random, sheet, 3) for _ in range(8)]
        own = [formula for formula in own if formula is not None]
        held = [formula for formula in own if holds(sheet, formula, planted)]
        found += own[:1] if random.random() < 0.25 else held[:1]
    return (kinds, tuple(rows), tuple(found)), planted
