import copy
import inspect
import random
import unittest

from madesure.decide import classes as module
from madesure.decide.classes import classes_of, shows_classes
from madesure.papers.papers import length_of, shows_no, thinned
from madesure.terms.nested import are_alike
from samples import (BINARY, CHAIN, LATER, LEAF, LISTS, MIXED, NEVER, SHEET, answers_to, check_sheets_refused,
                     plain_holds, plain_kind, plain_least, plain_worth, random_formula, random_sheet, random_term,
                     spoiled, spoiled_by_lists, trees_in_order)

NAMES = (("x", "tree", None), ("y", "tree", 7), ("z", "tree", None))
MIXED_NAMES = (("b", "box", None), ("c", "box", None), ("l", "lid", None), ("m", "mark", None))
SHUTTING = ("unlike", "two", "tests", "ring")


def part(k, term):
    return ("part", "node", k, term)


def tree_sheet(*formulas):
    return (BINARY, NAMES, formulas)


def standing(formulas):
    """The standing formulas: these, and of both its two."""
    rows = []
    for formula in formulas:
        rows.append(formula)
        if formula[0] == "both":
            rows += standing(formula[1:])
    return rows


def own(term):
    return (term[3:] if term[0] == "part" else term[1:]) if isinstance(term, tuple) else ()


def with_all(term):
    return [term] + [inner for one in own(term) for inner in with_all(one)]


def is_part(term):
    return isinstance(term, tuple) and term[0] == "part"


def is_made(term):
    return isinstance(term, tuple) and term[0] != "part"


class Plain:
    """Terms and classes as the document says them, word by word, by going on until nothing changes."""

    def __init__(self, sheet):
        self.sheet = sheet
        self.kinds = sheet[0]
        self.parts = {maker: parts for _, makers in self.kinds for maker, parts in makers}
        self.rows = standing(sheet[2])
        self.pairs = []
        terms = [name for name, _, _ in sheet[1]]
        for row in self.rows:
            inner = row[1] if row[0] == "not" else row
            if inner[0] == "same":
                terms += [inner[1], inner[2]]
            if inner[0] == "test":
                terms.append(inner[2])
            if row[0] == "same":
                self.pairs.append(row[1:])
            if row[0] == "test":
                made = (row[1],) + tuple(("part", row[1], k, row[2]) for k in range(len(self.parts[row[1]])))
                terms.append(made)
                self.pairs.append((row[2], made))
        self.terms = [inner for term in terms for inner in with_all(term)]
        self.terms += [inner for term in self.terms if is_part(term) for inner in with_all(self.least(term))]
        self.terms = sorted(set(self.terms), key=repr)
        self.classes = {term: at for at, term in enumerate(self.terms)}
        self.close()

    def least(self, term):
        kind = self.parts[term[1]][term[2]]
        return trees_in_order(self.kinds, kind, plain_least(self.kinds, kind), 1)[0]

    def like(self, one, other):
        return self.classes[one] == self.classes[other]

    def join(self, one, other):
        gone, kept = self.classes[one], self.classes[other]
        for term, at in self.classes.items():
            if at == gone:
                self.classes[term] = kept
        return gone != kept

    def close(self):
        for one, other in self.pairs:
            self.join(one, other)
        changed = True
        while changed:
            changed = False
            for one in self.terms:
                for other in self.terms:
                    for first, second in self.alike_by(one, other):
                        changed = self.join(first, second) or changed

    def alike_by(self, one, other):
        """The pairs that are alike because of these two terms."""
        if isinstance(one, tuple) and isinstance(other, tuple):
            head = 3 if is_part(one) else 1
            if one[:head] == other[:head] and len(one) == len(other):
                if all(self.like(first, second) for first, second in zip(own(one), own(other))):
                    yield one, other
        if is_made(one) and is_made(other) and one[0] == other[0] and self.like(one, other):
            yield from zip(own(one), own(other))
        if is_part(one) and is_made(other) and self.like(one[3], other):
            yield one, other[one[2] + 1] if other[0] == one[1] else self.least(one)

    def is_shut(self):
        solid = [term for term in self.terms if is_made(term) or isinstance(term, int)]
        for one in solid:
            for other in solid:
                if self.like(one, other) and (one != other if isinstance(one, int) else one[0] != other[0]):
                    return True
        for row in self.rows:
            if row[0] == "not" and row[1][0] == "same" and self.like(*row[1][1:]):
                return True
            if row[0] == "not" and row[1][0] == "test":
                if any(is_made(term) and term[0] == row[1][1] and self.like(term, row[1][2]) for term in solid):
                    return True
        return self.has_ring()

    def has_ring(self):
        left = {self.classes[term] for term in self.terms}
        while True:
            going = {at for at in left if any(is_made(term) and self.classes[term] == at and
                                              any(self.classes[inner] in left for inner in own(term)) for term in self.terms)}
            if going == left:
                return bool(left)
            left = going

    def told(self):
        rows = {}
        for term in self.terms:
            rows.setdefault(self.classes[term], []).append(term)
        return "open", tuple(sorted((tuple(row) for row in rows.values()), key=lambda row: repr(row[0])))


def standing_formula(chance, sheet):
    """A formula that stands, or is both of such."""
    word = chance.choice(("same", "same", "same", "test", "unlike", "not", "both", "any"))
    if word == "both":
        inner = [standing_formula(chance, sheet) for _ in range(2)]
        return None if None in inner else ("both", *inner)
    if word == "any":
        return random_formula(chance, sheet, 3)
    kind, makers = chance.choice(sheet[0] + (("mark", ()),))
    terms = [random_term(chance, sheet, kind, 2) for _ in range(2)]
    if None in terms:
        return None
    if word == "same":
        return ("same", *terms)
    if word == "unlike":
        return ("not", ("same", *terms))
    test = ("test", chance.choice(makers)[0], terms[0]) if makers else None
    return ("not", test) if test and word == "not" else test


def random_standing(chance, kinds):
    sheet = random_sheet(chance, kinds, names=4, formulas=0)
    found = [standing_formula(chance, sheet) for _ in range(chance.randint(0, 5))]
    return sheet[:2] + (tuple(formula for formula in found if formula is not None),)


class OpenTest(unittest.TestCase):

    def check(self, sheet, *classes):
        self.assertEqual(classes_of(sheet), ("open", classes))
        self.assertIs(shows_classes(sheet, ("open", classes)), True)

    def test_by_hand(self):
        self.check(tree_sheet(), ("x",), ("y",), ("z",))
        self.check((BINARY, (), ()))
        self.check(tree_sheet(("same", "x", "z")), ("x", "z"), ("y",))
        self.check(tree_sheet(("same", "z", "x"), ("same", "y", "z")), ("x", "y", "z"))
        self.check(tree_sheet(("same", "x", ("node", "y", "z"))), ("x", ("node", "y", "z")), ("y",), ("z",))

    def test_made_terms_of_like_terms(self):
        self.check(tree_sheet(("same", "x", "y"), ("not", ("same", ("node", "x", "z"), "z")), ("not", ("same", ("node", "y", "z"), "x"))),
                   ("x", "y"), ("z",), (("node", "x", "z"), ("node", "y", "z")))
        self.check(tree_sheet(("not", ("same", LEAF, "x")), ("not", ("test", "node", LEAF))), ("x",), ("y",), ("z",), (LEAF,))

    def test_terms_of_like_made_terms(self):
        self.check(tree_sheet(("same", ("node", "x", LEAF), ("node", "y", "z"))), ("x", "y"), ("z", LEAF),
                   (("node", "x", LEAF), ("node", "y", "z")))
        self.check(tree_sheet(("same", "x", ("node", "y", "z")), ("same", ("node", "z", "y"), "x")), ("x", ("node", "y", "z"), ("node", "z", "y")),
                   ("y", "z"))

    def test_parts(self):
        self.check(tree_sheet(("same", part(0, "x"), "y")), ("x",), ("y", part(0, "x")), ("z",), (LEAF,))
        self.check(tree_sheet(("same", part(0, "x"), "y"), ("same", "x", ("node", "z", "z"))), ("x", ("node", "z", "z")),
                   ("y", "z", part(0, "x")), (LEAF,))
        self.check(tree_sheet(("same", part(0, "x"), "y"), ("same", "x", LEAF)), ("x", "y", LEAF, part(0, "x")), ("z",))
        self.check(tree_sheet(("same", "x", "y"), ("not", ("same", part(1, "x"), part(0, "y")))), ("x", "y"), ("z",), (LEAF,),
                   (part(0, "y"),), (part(1, "x"),))
        self.check(tree_sheet(("same", "x", "y"), ("not", ("test", "leaf", ("node", part(1, "x"), part(1, "y"))))),
                   ("x", "y"), ("z",), (LEAF,), (("node", part(1, "x"), part(1, "y")),), (part(1, "x"), part(1, "y")))

    def test_tests(self):
        self.check(tree_sheet(("test", "leaf", "x")), ("x", LEAF), ("y",), ("z",))
        made = ("node", part(0, "x"), part(1, "x"))
        self.check(tree_sheet(("test", "node", "x")), ("x", made), ("y",), ("z",), (LEAF,), (part(0, "x"),), (part(1, "x"),))
        self.check(tree_sheet(("not", ("test", "node", "x"))), ("x",), ("y",), ("z",))
        self.check(tree_sheet(("test", "node", ("node", "x", "y"))), ("x", part(0, ("node", "x", "y"))),
                   ("y", part(1, ("node", "x", "y"))), ("z",), (LEAF,),
                   (("node", "x", "y"), ("node", part(0, ("node", "x", "y")), part(1, ("node", "x", "y")))))

    def test_parts_of_another_maker(self):
        sheet = (MIXED, MIXED_NAMES, (("test", "bare", "b"), ("same", ("part", "wrap", 1, "b"), "m"),
                                      ("same", "l", ("part", "void", 0, "b"))))
        self.check(sheet, ("b", ("bare", ("part", "bare", 0, "b"))), ("c",), ("l", ("part", "void", 0, "b"), ("plain",)),
                   ("m", ("part", "wrap", 1, "b"), 0), (("part", "bare", 0, "b"),))

    def test_just_what_stands_counts(self):
        for formula in (("either", ("same", "x", "y"), ("same", "x", "y")), ("not", ("not", ("same", "x", "y"))),
                        ("not", ("both", ("same", "x", LEAF), ("same", "x", "z"))), ("sum", ((1, ("node", "y", "y")),), 0),
                        ("not", ("sum", ((1, "y"),), 7)), ("not", ("either", ("same", "x", "y"), ("test", "leaf", "z")))):
            self.check(tree_sheet(formula), ("x",), ("y",), ("z",))
            self.check(tree_sheet(("both", formula, ("both", formula, ("same", "x", "z")))), ("x", "z"), ("y",))
        self.check(tree_sheet(("both", ("both", ("same", "x", "y"), ("sum", (), 0)), ("both", ("sum", (), 0), ("same", "z", "y")))),
                   ("x", "y", "z"))

    def test_marks(self):
        sheet = (MIXED, MIXED_NAMES, (("same", "m", 10), ("not", ("same", 9, 2))))
        self.check(sheet, ("b",), ("c",), ("l",), ("m", 10), (2,), (9,))

    def test_in_the_order_of_the_repr(self):
        names = (("z", "mark", None), ("a", "mark", None), ("b", "mark", 4), ("zz", "mark", None))
        formulas = (("same", "zz", 10), ("same", 9, "b"), ("not", ("same", 100, "a")), ("same", "z", "zz"))
        self.check((MIXED, names, formulas), ("a",), ("b", 9), ("z", "zz", 10), (100,))

    def test_great_trees_and_deep_terms(self):
        sheet = (CHAIN, (("c", "chain", None), ("d", "chain", None)), ())
        deep = "c"
        for _ in range(11):
            deep = ("next", deep)
        told = classes_of(sheet[:2] + ((("same", "d", deep[1]),),))
        self.assertEqual(len(told[1]), 11)
        self.assertEqual(told[1][1], ("d", deep[1]))


class ShutTest(unittest.TestCase):

    def check(self, sheet, *ends):
        told = classes_of(sheet)
        self.assertEqual(told[0], "shut", sheet)
        self.assertEqual(len(told), 2)
        self.assertIs(shows_no(sheet, told[1]), True, told)
        self.assertIn(told[1][1][0], ends or SHUTTING)
        self.assertIs(shows_classes(sheet, told), True)
        return told[1]

    def test_made_terms_of_two_makers(self):
        self.check(tree_sheet(("same", LEAF, ("node", "x", "y"))), "two")
        self.check(tree_sheet(("same", "x", LEAF), ("same", "x", "y"), ("same", ("node", "x", "y"), "y")), "two", "ring")
        self.check(tree_sheet(("test", "leaf", "x"), ("test", "node", "x")), "two", "tests")
        self.check(tree_sheet(("same", ("node", "x", LEAF), ("node", LEAF, ("node", "z", "z")))), "two")
        self.check(tree_sheet(("same", part(0, LEAF), ("node", "x", "y"))), "two")

    def test_two_marks(self):
        self.check((MIXED, MIXED_NAMES, (("same", 3, 4),)), "two")
        self.check((MIXED, MIXED_NAMES, (("same", 3, "m"), ("same", "m", 10))), "two")
        self.check((MIXED, MIXED_NAMES, (("same", ("tagged", 3), ("tagged", 0)),)), "two")
        self.check((MIXED, MIXED_NAMES, (("same", "l", ("plain",)), ("same", ("part", "tagged", 0, "l"), 1))), "two")

    def test_both_sides_of_a_not_same(self):
        self.check(tree_sheet(("not", ("same", "x", "x"))), "unlike")
        self.check(tree_sheet(("not", ("same", LEAF, LEAF))), "unlike")
        self.check(tree_sheet(("same", "x", "y"), ("not", ("same", "y", "x"))), "unlike")
        self.check(tree_sheet(("both", ("same", "x", "y"), ("not", ("same", ("node", "x", "z"), ("node", "y", "z"))))), "unlike")
        self.check(tree_sheet(("not", ("same", part(0, ("node", "x", "y")), "x"))), "unlike")

    def test_a_made_term_and_a_not_of_its_test(self):
        self.check(tree_sheet(("not", ("test", "leaf", LEAF))), "tests")
        self.check(tree_sheet(("same", "x", ("node", "y", "z")), ("not", ("test", "node", "x"))), "tests")
        self.check(tree_sheet(("test", "node", "x"), ("not", ("test", "node", "x"))), "tests")
        self.check(tree_sheet(("test", "node", "x"), ("same", part(0, "x"), LEAF), ("not", ("test", "leaf", part(0, "x")))), "tests")

    def test_rings(self):
        self.check(tree_sheet(("same", "x", ("node", "x", "y"))), "ring")
        self.check(tree_sheet(("same", "x", ("node", "y", "z")), ("same", "z", ("node", "y", "x"))), "ring")
        self.check(tree_sheet(("same", "x", ("node", "z", ("node", "y", ("node", "x", "y"))))), "ring")
        self.check(tree_sheet(("same", "x", ("node", "y", "z")), ("same", "z", "y"), ("same", ("node", "x", "x"), "z")), "ring")
        self.check(tree_sheet(("test", "node", "x"), ("same", part(1, "x"), "x")), "ring")
        # Rings at the end of a way that leads to them.
        self.check(tree_sheet(("same", "x", ("node", "y", LEAF)), ("same", "y", ("node", "y", LEAF))), "ring")
        self.check(tree_sheet(("same", "x", ("node", "y", LEAF)), ("same", "y", ("node", "z", LEAF)),
                              ("same", "z", ("node", LEAF, "y"))), "ring")
        self.check(tree_sheet(("same", "x", ("node", "y", LEAF)), ("same", "y", ("node", LEAF, "z")),
                              ("same", "z", ("node", ("node", "z", "z"), LEAF))), "ring")
        names = tuple((name, "tree", None) for name in "abcdef")
        formulas = tuple(("same", one, ("node", LEAF, other)) for one, other in zip("abcdef", "bcdefa"))
        self.assertEqual(length_of(self.check((BINARY, names, formulas), "ring")), 7)
        self.assertEqual(classes_of((BINARY, names, formulas[:-1]))[0], "open")

    def test_parts_alike(self):
        self.check(tree_sheet(("same", "x", "y"), ("not", ("same", part(0, "x"), part(0, "y")))), "unlike")
        self.check((LATER, (("s", "side", None), ("t", "side", None)), (
            ("same", "s", "t"), ("test", "turn", "s"), ("test", "over", "t"))), "two", "tests")
        self.check((LISTS, (("l", "list", None),), (("test", "nil", "l"), ("not", ("same", ("part", "cons", 0, "l"), ("count", 0))))),
                   "unlike")

    def test_long_ways(self):
        chance = random.Random(61)
        names = tuple((name, "tree", None) for name in "abcdef")
        for _ in range(30):
            order = chance.sample("abcdef", 6)
            formulas = [("same", chance.choice((("node", one, "a"), ("node", "b", one), one)), other)
                        for one, other in zip(order, order[1:])]
            sheet = (BINARY, names, tuple(formulas) + (("not", ("same", order[0], order[-1])),))
            told = classes_of(sheet)
            self.assertEqual(told[0] == "shut", Plain(sheet).is_shut())
            self.assertIs(shows_classes(sheet, told), True)

    def test_nothing_is_in_the_paper_that_nothing_goes_by(self):
        sheet = tree_sheet(("same", "y", "z"), ("test", "node", "z"), ("same", LEAF, ("node", "x", "y")))
        paper = self.check(sheet, "two")
        self.assertEqual(thinned(sheet, paper), paper)


class RandomTest(unittest.TestCase):

    def test_as_the_document_says(self):
        chance = random.Random(62)
        seen = {"open": 0, "unlike": 0, "two": 0, "tests": 0, "ring": 0}
        for kinds in (BINARY, LISTS, MIXED, CHAIN, LATER):
            for _ in range(400):
                sheet = random_standing(chance, kinds)
                plain = Plain(sheet)
                if len(plain.terms) > 40:
                    continue
                told = classes_of(sheet)
                self.assertEqual(told[0] == "shut", plain.is_shut(), sheet)
                if told[0] == "open":
                    self.assertEqual(told, plain.told(), sheet)
                else:
                    self.assertIs(shows_no(sheet, told[1]), True, (sheet, told))
                    self.assertIn(told[1][1][0], SHUTTING)
                self.assertIs(shows_classes(sheet, told), True)
                seen[told[0] if told[0] == "open" else told[1][1][0]] += 1
        self.assertGreater(min(seen.values()), 5, seen)
        self.assertGreater(seen["open"], 100)

    def test_what_is_alike_is_so_in_each_answer_that_fits(self):
        chance = random.Random(63)
        seen = 0
        for _ in range(800):
            sheet = random_standing(chance, chance.choice((BINARY, LISTS, MIXED, LATER)))
            told = classes_of(sheet)
            for answer in answers_to(sheet, 3, limit=25):
                if all(plain_holds(sheet, formula, answer) for formula in sheet[2]):
                    self.assertEqual(told[0], "open", (sheet, answer))
                    for row in told[1]:
                        worths = [plain_worth(sheet, term, answer) for term in row]
                        self.assertEqual(worths, worths[:1] * len(worths))
                        seen += len(row) > 1
        self.assertGreater(seen, 200)

    def test_sames_alone(self):
        # Without parts and mosts: alike in one class just where they are so in all answers that fit.
        chance = random.Random(64)
        seen = {"open": 0, "shut": 0}
        for _ in range(150):
            kinds = chance.choice((BINARY, CHAIN))
            names = tuple((name, kinds[0][0], None) for name in "xyz")
            sheet = (kinds, names, ())
            formulas = []
            for _ in range(chance.randint(1, 2)):
                terms = [without_parts(chance, sheet, kinds[0][0], 1) for _ in range(2)]
                formulas.append(("same", *terms))
            sheet = (kinds, names, tuple(formulas))
            told = classes_of(sheet)
            seen[told[0]] += 1
            fitting = [answer for answer in answers_to(sheet, 5, limit=300)
                       if all(plain_holds(sheet, formula, answer) for formula in formulas)]
            self.assertEqual(told[0], "open" if fitting else "shut", sheet)
            if told[0] == "open":
                terms = [term for row in told[1] for term in row]
                for one in terms:
                    for other in terms:
                        if plain_kind(sheet, one) == plain_kind(sheet, other):
                            alike = all(plain_worth(sheet, one, answer) == plain_worth(sheet, other, answer) for answer in fitting)
                            self.assertEqual(alike, any(one in row and other in row for row in told[1]), (sheet, one, other))
        self.assertGreater(min(seen.values()), 15, seen)


def without_parts(chance, sheet, kind, depth):
    term = None
    while term is None or any(is_part(inner) for inner in with_all(term)):
        term = random_term(chance, sheet, kind, depth)
    return term


class ShowsTest(unittest.TestCase):
    OPEN = tree_sheet(("same", "x", ("node", "y", LEAF)), ("test", "node", "z"))
    SHUT = tree_sheet(("same", "x", ("node", "y", "z")), ("not", ("same", ("node", "y", "z"), "x")), ("same", "z", ("node", "z", "y")))

    def test_bent_classes(self):
        told = classes_of(self.OPEN)
        self.assertEqual(told[0], "open")
        rows = told[1]
        for bent in (rows[::-1], rows[:-1], rows[1:], rows + ((),), rows + rows[:1], (rows[0][::-1],) + rows[1:],
                     (rows[0] + rows[1],) + rows[2:], tuple((term,) for row in rows for term in row), list(rows), (), None):
            self.assertIs(shows_classes(self.OPEN, ("open", bent)), False, bent)
        for other in spoiled_by_lists(told):
            self.assertIs(shows_classes(self.OPEN, other), False, other)
        for odd in NEVER + ("other", "x", LEAF, ()):
            for other in spoiled(told, lambda inner: odd):
                self.assertIs(shows_classes(self.OPEN, other), repr(other) == repr(told), other)

    def test_truths_are_no_marks(self):
        sheet = (MIXED, MIXED_NAMES, (("same", ("part", "wrap", 1, "b"), 1),))
        told = classes_of(sheet)
        for truth, mark in ((True, 1), (False, 0)):
            bent = [other for other in spoiled(told, lambda inner: truth if inner == mark and type(inner) is int else inner)
                    if repr(other) != repr(told)]
            self.assertGreater(len(bent), 0)
            for other in bent:
                self.assertIs(shows_classes(sheet, other), False, other)

    def test_any_paper_by_steps_and_such_an_end(self):
        given = (("given", 0), ("given", 1), ("given", 2))
        for end, wanted in ((("unlike", 0, 1), True), (("ring", (2,)), True), (("ring", (0,)), False), (("two", 0), False),
                            (("unlike", 0, 2), False), (("apart", 1, ()), False), (("below", 0), False)):
            self.assertIs(shows_classes(self.SHUT, ("shut", (given, end))), wanted, end)
        # Shut as well, but by cases, or by a sum below.
        inner = (given, ("unlike", 0, 1))
        for paper in (((), ("sizes", "x", 3, (inner_behind(1), inner_behind(1)))), (given, ("makers", "x", (((), ("unlike", 0, 1)),) * 2))):
            self.assertIs(shows_no(self.SHUT, paper), True)
            self.assertIs(shows_classes(self.SHUT, ("shut", paper)), False)
        self.assertIs(shows_classes(self.SHUT, ("shut", inner)), True)
        sheet = tree_sheet(("same", LEAF, ("node", "x", "y")), ("sum", (), -1))
        self.assertIs(shows_no(sheet, ((("given", 1),), ("below", 0))), True)
        self.assertIs(shows_classes(sheet, ("shut", ((("given", 1),), ("below", 0)))), False)
        self.assertIs(shows_classes(sheet, ("shut", ((("given", 0),), ("two", 0)))), True)

    def test_where_the_classes_are_open(self):
        # There is such a paper, but by what does not stand.
        sheet = tree_sheet(("not", ("not", ("same", LEAF, ("node", "x", "y")))))
        paper = ((("given", 0), ("turned", 0)), ("two", 1))
        self.assertIs(shows_no(sheet, paper), True)
        self.assertEqual(classes_of(sheet)[0], "open")
        self.assertIs(shows_classes(sheet, ("shut", paper)), False)

    def test_bent_papers(self):
        told = classes_of(self.SHUT)
        for other in spoiled_by_lists(told):
            self.assertIs(shows_classes(self.SHUT, other), False, other)
        for odd in NEVER + ("other", 17, ("x", "x")):
            for other in spoiled(told, lambda inner: odd):
                self.assertIs(shows_classes(self.SHUT, other), False, other)

    def test_of_anything(self):
        for sheet in (self.OPEN, self.SHUT):
            told = classes_of(sheet)
            for thing in NEVER + ((), told[:1], told + ((),), list(told), told[1], ("yes", told[1]), (None, told[1]), ([], told[1]),
                                  ("no", told[1]), ({"shut": 0}, told[1]), "shut", ("shut",), ("open",), ("shut", None), ("open", None)):
                self.assertIs(shows_classes(sheet, thing), False, thing)
        self.assertIs(shows_classes(self.OPEN, ("shut", classes_of(self.SHUT)[1])), False)
        self.assertIs(shows_classes(self.SHUT, ("open", classes_of(self.OPEN)[1])), False)


def inner_behind(many):
    """A paper of the sheet SHUT behind so many facts."""
    return ((("given", 0), ("given", 1)), ("unlike", many, many + 1))


class RefusalsTest(unittest.TestCase):

    def test_sheets(self):
        check_sheets_refused(self, classes_of, ())
        check_sheets_refused(self, shows_classes, (("open", ()),), (None,), ([],))

    def test_nothing_is_changed(self):
        sheet = copy.deepcopy(ShowsTest.SHUT)
        told = classes_of(sheet)
        self.assertEqual(classes_of(sheet), told)
        self.assertEqual(sheet, ShowsTest.SHUT)
        odd = [["shut"], {"open": ()}]
        kept = copy.deepcopy(odd)
        self.assertIs(shows_classes(sheet, odd), False)
        self.assertIs(shows_classes(sheet, tuple(odd)), False)
        self.assertIs(shows_classes(SHEET, ("open", odd)), False)
        self.assertEqual(odd, kept)

    def test_of_great_sheets(self):
        term = "x"
        for _ in range(8):
            term = ("node", term, term)
        formulas = tuple(("same", ("node", term, part(at % 2, "y")), ("node", "z", part(0, "z"))) for at in range(10))
        told = classes_of(tree_sheet(*formulas))
        self.assertIs(shows_classes(tree_sheet(*formulas), told), True)
        self.assertTrue(are_alike(classes_of(tree_sheet(*formulas)), told))


class InterfaceTest(unittest.TestCase):

    def test_names_and_arguments(self):
        for name, arguments in (("classes_of", "(sheet)"), ("shows_classes", "(sheet, thing)")):
            function = getattr(module, name)
            self.assertEqual(function.__module__, "madesure.decide.classes")
            self.assertEqual(str(inspect.signature(function)), arguments)


if __name__ == "__main__":
    unittest.main()
