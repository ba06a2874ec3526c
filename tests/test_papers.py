import copy
import inspect
import random
import unittest

from madesure.errors import NoPaper
from madesure.papers import papers as module
from madesure.papers.papers import length_of, shows_no, thinned
from madesure.papers.steps import fact_by
from madesure.terms.nested import are_alike
from samples import (BINARY, CHAIN, LEAF, LISTS, MIXED, NEVER, SHEET, answers_to, check_sheets_refused, plain_holds,
                     random_formula, random_sheet, refusal, spoiled, spoiled_by_lists)

NODE = ("node", "y", "z")
FACTS = (
    ("same", "x", NODE), ("not", ("same", NODE, "x")), ("not", ("same", "x", NODE)), ("same", LEAF, NODE),   # 0 to 3
    ("same", NODE, NODE), ("same", 3, 4), ("same", 3, 3), ("same", "m", 3), ("same", ("part", "node", 0, "x"), LEAF),
    ("test", "leaf", "x"), ("test", "node", "x"), ("not", ("test", "leaf", "x")), ("test", "node", "y"),     # 9 to 12
    ("same", "y", ("node", "x", "z")), ("same", "z", ("node", LEAF, "x")), ("same", "y", ("node", LEAF, "y")),
    ("sum", (), -1), ("sum", (), 0), ("sum", ((1, "x"),), -1), ("either", ("sum", (), -1), ("sum", (), -2)),  # 16 to 19
    ("not", ("same", NODE, ("node", "z", "x"))), ("not", ("same", LEAF, LEAF)), ("not", ("same", LEAF, NODE)),
    ("not", ("either", ("sum", (), 1), ("sum", (), 1))), ("same", "z", ("node", ("node", "z", "x"), "y")),   # 23, 24
    ("not", ("same", ("part", "node", 0, "x"), ("part", "node", 0, "y"))), ("not", ("test", "node", "y")),   # 25, 26
)
SHUT = ((), ("below", 16))
OPEN = ((), ("below", 17))
ENDS = (("unlike", 0, 1), ("unlike", 0, 2), ("two", 3), ("two", 5), ("tests", 9, 10), ("tests", 10, 9),
        ("tests", 9, 11), ("tests", 12, 26), ("ring", (15,)), ("ring", (0, 13)), ("ring", (13, 0)), ("ring", (0, 14)),
        ("ring", (14, 0)), ("ring", (0, 13, 14)), ("ring", (15, 15)), ("ring", (0, 13, 0, 13)), ("below", 16))
NO_ENDS = (("unlike", 1, 0), ("unlike", 0, 0), ("unlike", 1, 2), ("unlike", 4, 1), ("unlike", 0, 20), ("unlike", 0, 23),
           ("unlike", 9, 11), ("unlike", 0, 27), ("unlike", -27, 1), ("unlike", 0, -26), ("two", 0), ("two", 4),
           ("two", 6), ("two", 7), ("two", 8), ("two", 22), ("two", 9), ("two", 27), ("two", -24), ("tests", 9, 9),
           ("tests", 9, 12), ("tests", 12, 9), ("tests", 12, 11), ("tests", 11, 9), ("tests", 10, 11), ("tests", 11, 10),
           ("tests", 9, 2), ("tests", 0, 1), ("tests", 9, 27), ("tests", 9, -17), ("ring", ()), ("ring", (0,)),
           ("ring", (13,)), ("ring", (14, 13, 0)), ("ring", (24,)), ("ring", (7,)), ("ring", (9,)), ("ring", (15, 27)),
           ("ring", (15, -12)), ("ring", (8,)), ("ring", (3,)), ("ring", (15, 0)), ("ring", 15), ("ring", [15]),
           ("below", 17), ("below", 18), ("below", 0), ("below", 27), ("below", -11), ("given", 0), ("other", 16), ("left", 16),
           ("span", "x", True))


def is_shut(thing, facts=FACTS, sheet=SHEET):
    return shows_no(sheet, thing, facts=facts)


def against(fact):
    """A fact that cannot hold where this one does, nor is less than its not."""
    if fact[0] == "sum":
        return ("sum", tuple((-factor, term) for factor, term in fact[1]), -fact[2] - 1)
    return fact[1] if fact[0] == "not" else ("not", fact)


def shut_by(fact, other, number):
    """A paper shut where this fact has this number, and what is against it the other one."""
    if fact[0] == "sum":
        return (("added", ((other, 1), (number, 1)), 0),), ("below", number + 1)
    return (), ("unlike", other, number) if fact[0] == "not" else ("tests", number, other)


class EndsTest(unittest.TestCase):

    def test_ends_that_shut(self):
        for end in ENDS:
            self.assertIs(is_shut(((), end)), True, end)
            self.assertIs(is_shut(((("linked", "x", ()), ("kind", "y")), end)), True, end)
            self.assertIs(is_shut(((), end), facts=()), False, end)

    def test_ends_that_do_not(self):
        for end in NO_ENDS:
            self.assertIs(is_shut(((), end)), False, end)

    def test_two_needs_both_made_or_marks(self):
        for one, other in ((NODE, "x"), ("x", NODE), (LEAF, "x"), (LEAF, ("part", "node", 0, "x")), (("part", "node", 0, "x"), LEAF),
                           (("part", "node", 0, "x"), ("part", "node", 1, "x")), ("m", 3), (3, "m"), ("m", "n"), (NODE, NODE),
                           (3, 3), (NODE, ("node", LEAF, "x"))):
            self.assertIs(is_shut(((), ("two", 0)), (("same", one, other),)), False, (one, other))
        for one, other in ((NODE, LEAF), (LEAF, NODE), (0, 1), (10, 9)):
            self.assertIs(is_shut(((), ("two", 0)), (("same", one, other),)), True, (one, other))

    def test_made_by_two_makers_with_as_many_parts(self):
        sheet = (MIXED, (("l", "lid", None),), ())
        one, other = ("bare", "l"), ("void", "l")
        self.assertIs(is_shut(((), ("two", 0)), (("same", one, other),), sheet), True)
        facts = (("not", ("same", one, other)), ("not", ("same", one, one)), ("sum", (), -1))
        shut = ((), ("below", 2))
        for number, papers, wanted in ((0, (shut,), False), (0, (), False), (1, (shut,), True), (1, (), False)):
            self.assertIs(is_shut(((), ("apart", number, papers)), facts, sheet), wanted)

    def test_by_facts_of_steps(self):
        sheet = (BINARY, SHEET[1], (("both", ("same", "x", NODE), ("same", "y", ("node", "x", "x"))),))
        steps = (("given", 0), ("left", 0), ("right", 0))
        for end, wanted in ((("ring", (1, 2)), True), (("ring", (2, 1)), True), (("ring", (0, 1)), False),
                            (("ring", (1,)), False), (("ring", (2, 3)), False)):
            self.assertIs(shows_no(sheet, (steps, end)), wanted)
        # The facts ahead are numbered first.
        self.assertIs(shows_no(sheet, (steps, ("ring", (1, 2))), facts=(("sum", (), 0),)), False)
        steps = (("given", 0), ("left", 1), ("right", 1))
        self.assertIs(shows_no(sheet, (steps, ("ring", (2, 3))), facts=(("sum", (), 0),)), True)

    def test_all_steps_are_steps_there(self):
        for step in (("given", 4), ("left", 0), ("left", 27), ("turned", 0), ("within", "y"), (), None, ("below", 16), []):
            self.assertIs(is_shut(((step,), ("below", 16))), False, step)
            self.assertIs(is_shut(((("given", 0), step), ("below", 16))), False, step)
            self.assertIs(is_shut(((step, ("given", 0)), ("below", 16))), False, step)
        # A step goes by no fact that comes behind it.
        self.assertIs(is_shut(((("given", 0), ("tested", 27)), ("below", 16))), True)
        self.assertIs(is_shut(((("tested", 28), ("given", 0)), ("below", 16))), False)
        self.assertIs(is_shut(((("tested", 27), ("given", 0)), ("below", 16))), False)

    def test_facts_left_out(self):
        sheet = (BINARY, SHEET[1], (("same", LEAF, NODE),))
        self.assertIs(shows_no(sheet, ((("given", 0),), ("two", 0))), True)
        self.assertIs(shows_no(sheet, ((("given", 0),), ("two", 0)), facts=()), True)
        self.assertIs(shows_no(sheet, ((), ("two", 0))), False)

    def test_sound(self):
        chance = random.Random(31)
        seen = {end[0]: 0 for end in ENDS}
        for _ in range(500):
            sheet = random_sheet(chance)
            found = [random_formula(chance, sheet, 2) for _ in range(6)]
            facts = tuple(fact for fact in found if fact is not None)
            facts = facts + tuple(("not", fact) for fact in facts[:2])
            for word in ("unlike", "two", "tests", "ring", "below"):
                for one in range(len(facts)):
                    other = chance.randrange(len(facts))
                    end = {"unlike": (word, one, other), "tests": (word, one, other),
                           "ring": (word, (one, other)[:chance.randint(1, 2)])}.get(word, (word, one))
                    if shows_no(sheet, ((), end), facts=facts):
                        seen[word] += 1
                        for answer in answers_to(sheet, 3, limit=8):
                            self.assertFalse(all(plain_holds(sheet, fact, answer) for fact in facts), (sheet, facts, end))
        self.assertGreater(min(seen.values()), 1, seen)


class CasesTest(unittest.TestCase):

    def check(self, word, things, cases, facts=FACTS, sheet=SHEET):
        """Each case has just these facts behind the others, in this order."""
        facts = facts + tuple(against(case) for case in cases)
        papers = tuple(shut_by(case, len(facts) - len(cases) + at, len(facts)) for at, case in enumerate(cases))
        self.assertIs(is_shut(((), (word, *things, papers)), facts, sheet), True, (word, things))
        for at in range(len(cases)):
            for other in (OPEN, (), None, ((), ("below", len(facts) + 1)), ((("given", 9),), ("below", 16)), *papers):
                bent = papers[:at] + (other,) + papers[at + 1:]
                self.assertIs(is_shut(((), (word, *things, bent)), facts, sheet), bent == papers, bent)
        for bent in (papers[:-1], papers + (SHUT,), list(papers), None, SHUT, (papers,), {}, len(papers)):
            self.assertIs(is_shut(((), (word, *things, bent)), facts, sheet), False, bent)

    def test_makers(self):
        self.check("makers", ("x",), (("test", "node", "x"), ("test", "leaf", "x")))
        # The case of leaf has its test: so it is shut beside the fact that x is a node, that of node is not.
        leaf, node = ((), ("tests", 10, 27)), ((), ("tests", 9, 27))
        self.assertIs(is_shut(((), ("makers", "x", (node, leaf)))), True)
        for papers in ((leaf, node), (leaf, leaf), (node, node)):
            self.assertIs(is_shut(((), ("makers", "x", papers))), False)
        for papers in ((node, leaf), (leaf, node)):
            self.assertIs(is_shut(((), ("makers", "y", papers))), False)
        term = ("node", ("part", "node", 0, "x"), LEAF)
        self.check("makers", (term,), (("test", "node", term), ("test", "leaf", term)))

    def test_makers_of_other_kinds(self):
        sheet = (MIXED, (("b", "box", None), ("l", "lid", None), ("m", "mark", None)), ())
        below = (("sum", (), -1),)
        shut = ((), ("below", 0))
        for term, many in (("b", 3), ("l", 2), (("part", "wrap", 0, "b"), 2), (("part", "wrap", 2, "b"), 3),
                           (("bare", "l"), 3)):
            for papers in range(5):
                self.assertIs(is_shut(((), ("makers", term, (shut,) * papers)), below, sheet), papers == many)
        for term in ("m", 0, 7, ("part", "wrap", 1, "b"), ("part", "tagged", 0, "l"), "w", "lid", -1, None, True, (), []):
            for papers in range(5):
                self.assertIs(is_shut(((), ("makers", term, (shut,) * papers)), below, sheet), False, term)
        # Each maker's test stands in its own case.
        tests = tuple((("test", maker, "b"), ("not", ("test", maker, "b"))) for maker in ("wrap", "bare", "void"))
        facts = tuple(other for _, other in tests)
        papers = tuple(((), ("tests", 3, at)) for at in range(3))
        self.assertIs(is_shut(((), ("makers", "b", papers)), facts, sheet), True)
        for bent in (papers[::-1], papers[1:] + papers[:1], papers[:2], papers + papers[:1]):
            self.assertIs(is_shut(((), ("makers", "b", bent)), facts, sheet), False)

    def test_sizes(self):
        for number in (-3, -1, 0, 1, 2, 40, 10 ** 40, -10 ** 40):
            self.check("sizes", ("x", number), (("sum", ((1, "x"),), number), ("sum", ((-1, "x"),), -number - 1)))
            # Put with the other side each is below: the facts are just these.
            facts = FACTS + (("sum", ((-1, "x"),), -number - 1), ("sum", ((1, "x"),), number))
            low = ((("added", ((27, 1), (29, 1)), 0),), ("below", 30))
            high = ((("added", ((28, 1), (29, 1)), 0),), ("below", 30))
            self.assertIs(is_shut(((), ("sizes", "x", number, (low, high))), facts), True)
            for papers in ((high, low), (low, low), (high, high)):
                self.assertIs(is_shut(((), ("sizes", "x", number, papers)), facts), False)
            more = ((("added", ((27, 1), (29, 1)), 1),), ("below", 30))
            self.assertIs(is_shut(((), ("sizes", "x", number, (more, high))), facts), False)
            self.assertIs(is_shut(((), ("sizes", "y", number, (low, high))), facts), False)
        for term in ("y", "m", "n", 5, NODE, ("part", "node", 1, "y")):
            self.check("sizes", (term, 3), (("sum", ((1, term),), 3), ("sum", ((-1, term),), -4)))
        for number in (None, True, False, "3", (), [3], (3,)):
            self.assertIs(is_shut(((), ("sizes", "x", number, (SHUT, SHUT)))), False, number)
        for term in ("w", "node", -1, None, True, (), [], ("leaf", "x"), {}):
            self.assertIs(is_shut(((), ("sizes", term, 3, (SHUT, SHUT)))), False, term)

    def test_either(self):
        left, right = ((), ("below", 27)), ((("cut", 27, 1),), ("below", 28))
        self.assertIs(is_shut(((), ("either", 19, (left, right)))), True)
        self.assertIs(is_shut(((), ("either", 19, (right, left)))), True)
        facts = (("either", ("test", "leaf", "x"), ("test", "node", "y")), ("test", "node", "x"), ("test", "leaf", "y"))
        one, two = ((), ("tests", 3, 1)), ((), ("tests", 3, 2))
        for papers, wanted in (((one, two), True), ((two, one), False), ((one, one), False), ((two, two), False),
                               ((one,), False), ((one, two, two), False), ([one, two], False)):
            self.assertIs(is_shut(((), ("either", 0, papers)), facts), wanted)
        for number in [at for at in range(-1, 29) if at != 19] + [None, True, "19", (19,), [19]]:
            self.assertIs(is_shut(((), ("either", number, (SHUT, SHUT)))), False, number)

    def test_apart(self):
        self.check("apart", (20,), (("not", ("same", "y", "z")), ("not", ("same", "z", "x"))))
        facts = (("not", ("same", NODE, ("node", "z", "x"))), ("same", "y", "z"), ("same", "x", "z"))
        one, two = ((), ("unlike", 1, 3)), ((), ("unlike", 2, 3))
        for papers, wanted in (((one, two), True), ((two, one), False), ((one, one), False), ((two, two), False)):
            self.assertIs(is_shut(((), ("apart", 0, papers)), facts), wanted)
        # Of a maker without parts there is no case: so it is shut.
        self.assertIs(is_shut(((), ("apart", 21, ()))), True)
        for papers in ((SHUT,), (SHUT, SHUT), [], None):
            self.assertIs(is_shut(((), ("apart", 21, papers))), False)
        for number in [at for at in range(-1, 29) if at not in (20, 21)] + [None, True, "20", (20,), [20]]:
            for papers in ((), (SHUT,), (SHUT, SHUT)):
                self.assertIs(is_shut(((), ("apart", number, papers))), False, number)

    def test_cases_within_cases(self):
        paper = SHUT
        for at in range(40):
            paper = ((("linked", "x", ()),), ("sizes", "x", at, (paper, ((), ("makers", "y", (SHUT, SHUT))))))
        self.assertIs(is_shut(paper), True)
        self.assertEqual(length_of(paper), 1 + 40 * 5)
        bent = OPEN
        for at in range(40):
            bent = ((("linked", "x", ()),), ("sizes", "x", at, (bent, ((), ("makers", "y", (SHUT, SHUT))))))
        self.assertIs(is_shut(bent), False)

    def test_facts_of_one_case_stand_in_no_other(self):
        facts = (("test", "leaf", "x"), ("sum", (), 0))
        inner = ((("linked", "y", ()), ("linked", "z", ())), ("tests", 0, 2))
        # In the first case number 2 is the test of node, 3 and 4 are the steps of that case alone.
        for other, wanted in ((((), ("tests", 2, 0)), False), (((("sized", 3, True),), ("below", 4)), False),
                              (((), ("below", 3)), False)):
            self.assertIs(is_shut(((), ("makers", "x", (inner, other))), facts), wanted)
        facts = (("test", "leaf", "x"), ("test", "node", "x"))
        self.assertIs(is_shut(((), ("makers", "x", (inner, ((), ("tests", 1, 2))))), facts), True)


class PapersTest(unittest.TestCase):

    def test_of_anything(self):
        for thing in NEVER + ((), SHUT + ((),), SHUT[:1], ((), ()), (None, ("below", 16)), ([], ("below", 16)),
                              ({}, ("below", 16)), ("", ("below", 16)), ((), ["below", 16]), ((), ("below",)),
                              ((), ("below", 16, 0)), ((), "below"), ((), None), ((), 16), ((), {"below": 16}),
                              ("yes", {}), ("no", SHUT), SHEET, FACTS, ((), (None, 16)), ((), (["below"], 16)),
                              ((), ("unlike", 0)), ((), ("unlike", 0, 1, 0)), ((), ("makers", "x")), (0, 0),
                              ((), ("makers", "x", (SHUT, SHUT), ())), ((), ("sizes", "x", (SHUT, SHUT)))):
            self.assertIs(is_shut(thing), False, thing)

    def samples(self):
        """Shut papers of the sample sheet and facts."""
        node = ((("shaped", 27), ("counts", NODE, True), ("added", ((16, 2), (29, 1)), 0)), ("tests", 9, 27))
        leaf = ((("given", 0), ("tested", 28)), ("tests", 10, 27))
        return (((("given", 0), ("inner", 4, 1)), ("unlike", 0, 1)), ((), ("ring", (0, 13, 14))),
                ((), ("makers", "x", (node, leaf))), ((), ("either", 19, (SHUT, ((), ("below", 27))))),
                ((), ("sizes", ("part", "node", 0, "x"), 7, (SHUT, SHUT))), ((), ("apart", 20, (SHUT, SHUT))),
                ((("given", 1), ("cut", 27, 1)), ("two", 5)))

    def test_bent_at_one_place(self):
        for paper in self.samples():
            self.assertIs(is_shut(paper), True, paper)
            for other in spoiled_by_lists(paper):
                self.assertIs(is_shut(other), False, other)
            for odd in NEVER[2:] + ("other", ["x"], {"x": 0}, 5000, 10 ** 39, ("w", "w")):
                for other in spoiled(paper, lambda inner: odd):
                    if not (odd in (-1, 5000, 10 ** 39) and ("sizes" in repr(paper) or "counts" in repr(paper))):
                        self.assertIs(is_shut(other), False, other)
            for truth in (True, False):
                for other in spoiled(paper, lambda inner: truth if type(inner) is int else inner):
                    if repr(other) != repr(paper):
                        self.assertIs(is_shut(other), False, other)

    def test_one_thing_left_out(self):
        for paper in self.samples():
            if "ring" in repr(paper) or thinned(SHEET, paper, facts=FACTS) != paper:
                # Of a ring a part may be one, too, and steps that nothing goes by may be left out.
                continue
            for other in spoiled(paper, lambda inner: inner[:-1] if isinstance(inner, tuple) and inner else inner):
                if other != paper and other[0] == paper[0]:
                    self.assertIs(is_shut(other), False, other)

    def test_great_ones(self):
        paper = SHUT
        for _ in range(20000):
            paper = ((), ("sizes", "x", 3, (SHUT, paper)))
        self.assertIs(is_shut(paper), True)
        self.assertEqual(length_of(paper), 40001)
        self.assertTrue(are_alike(thinned(SHEET, paper, facts=FACTS), paper))
        steps = tuple(("linked", "x", ()) for _ in range(20000))
        self.assertIs(is_shut((steps, ("below", 16))), True)
        self.assertEqual(length_of((steps, ("below", 16))), 20001)
        self.assertEqual(thinned(SHEET, (steps, ("below", 16)), facts=FACTS), SHUT)

    def test_deep_terms(self):
        sheet = (CHAIN, (("c", "chain", None),), ())
        deep = "c"
        for _ in range(20000):
            deep = ("next", deep)
        self.assertIs(shows_no(sheet, ((("linked", "c", (0,)), ("inner", 0, 0)), ("unlike", 2, 1)),
                               facts=(("same", "c", deep), ("not", ("same", deep, "c")))), False)
        self.assertIs(shows_no(sheet, ((("linked", "c", (0,)),), ("unlike", 2, 1)),
                               facts=(("same", "c", deep), ("not", ("same", deep, "c")))), True)
        self.assertIs(shows_no(sheet, ((("counts", deep, True),), ("sizes", deep, 3, (SHUT, SHUT)))), False)


class LengthTest(unittest.TestCase):

    def test_by_hand(self):
        steps = (("given", 0), ("left", 0), ("kind", "x"))
        for paper, length in ((SHUT, 1), ((steps, ("below", 3)), 4), (((), ("apart", 0, ())), 1),
                              (((), ("makers", "x", (SHUT, SHUT))), 3), ((steps, ("makers", "x", (SHUT, (steps, ("two", 0))))), 9),
                              (((), ("sizes", "x", 4, (SHUT, ((), ("either", 3, (SHUT, (steps, ("two", 1)))))))), 8)):
            self.assertEqual(length_of(paper), length, paper)

    def test_of_papers_that_are_not_shut(self):
        self.assertEqual(length_of(((("left", 40), ("given", -7)), ("unlike", 9, 9))), 3)
        self.assertEqual(length_of(((), ("makers", "w", (OPEN, OPEN, OPEN, OPEN, OPEN)))), 6)

    def test_of_what_has_not_the_form(self):
        for thing in NEVER + ((), ((), ()), SHUT[:1], (None, ("below", 0)), ((), ("other", 0)), ((), ("makers", "x", None)),
                              ((), ("makers", "x", (SHUT, None))), ((), ("either", 0, (SHUT, ((), ("below",)))))):
            self.assertIs(type(refusal(length_of, thing)), NoPaper, thing)


def plain_thinned(paper, many):
    """A shut paper thinned, by trying: one step after the other is left out while nothing goes by it."""
    while True:
        found = [other for other in papers_without_one(paper, many)]
        if not found:
            return paper
        paper = found[0]


def papers_without_one(paper, many):
    steps, end = paper
    for at in range(len(steps)):
        rest = renumbered((steps[at + 1:], end), many + at)
        if rest is not None:
            yield (steps[:at] + rest[0], rest[1])
    if end[0] in ("makers", "sizes", "either", "apart"):
        for place, inner in enumerate(end[-1]):
            for other in papers_without_one(inner, many + len(steps) + 1):
                yield (steps, end[:-1] + (end[-1][:place] + (other,) + end[-1][place + 1:],))


PLACES = {"given": "nn", "within": "nn", "linked": "nnr", "alike": "nnr", "alikepart": "nnnf", "elsewhere": "nfnn",
          "moved": "nff", "kind": "nn", "counts": "nnn", "added": "npn", "unlike": "nff", "tests": "nff", "ring": "nr",
          "makers": "nn", "sizes": "nnn"}


def renumbered(thing, gone):
    """A paper's rest without the fact of this number, None where something goes by it."""
    steps, end = thing
    told = [row_without(row, gone) for row in steps + (end,)]
    if None in told:
        return None
    if end[0] in ("makers", "sizes", "either", "apart"):
        papers = [renumbered(inner, gone) for inner in end[-1]]
        if None in papers:
            return None
        told[-1] = told[-1][:-1] + (tuple(papers),)
    return tuple(told[:-1]), told[-1]


def row_without(row, gone):
    told = list(row)
    for at, place in enumerate(PLACES.get(row[0], "nfnnn")[:len(row)]):
        if place == "f":
            told[at] = without([row[at]], gone)[0]
        elif place == "r":
            told[at] = tuple(without(row[at], gone))
        elif place == "p":
            told[at] = tuple((without([number], gone)[0], times) for number, times in row[at])
    return None if "gone" in str(told) else tuple(told)


def without(numbers, gone):
    return ["gone" if number == gone else number - (number > gone) for number in numbers]


class ThinnedTest(unittest.TestCase):

    def check(self, paper, wanted, facts=FACTS, sheet=SHEET):
        self.assertEqual(thinned(sheet, paper, facts=facts), wanted)
        self.assertIs(shows_no(sheet, wanted, facts=facts), True)
        self.assertEqual(thinned(sheet, wanted, facts=facts), wanted)

    def test_by_hand(self):
        self.check(SHUT, SHUT)
        self.check(((("given", 0), ("given", 1)), ("below", 16)), SHUT)
        self.check(((("given", 0), ("cut", 16, 1), ("given", 1), ("cut", 28, 1), ("given", 2)), ("below", 30)),
                   ((("cut", 16, 1), ("cut", 27, 1)), ("below", 28)))
        self.check(((("given", 0), ("linked", NODE, (27, 0)), ("linked", LEAF, ())), ("unlike", 0, 1)),
                   ((), ("unlike", 0, 1)))
        self.check(((("kind", "x"), ("kind", "y"), ("added", ((28, 1), (16, 3)), 0), ("cut", 29, 1), ("kind", "z"),
                     ("within", "x"), ("added", ((16, 1), (27, 9), (32, 9)), 0)), ("below", 16)), SHUT)

    def test_without_facts_ahead(self):
        sheet = (BINARY, SHEET[1], (("sum", ((1, "x"),), 0), ("same", LEAF, NODE)))
        self.check(((("kind", "y"), ("given", 0), ("kind", "z"), ("kind", "x"), ("added", ((1, 1), (3, 1)), 0)), ("below", 4)),
                   ((("given", 0), ("kind", "x"), ("added", ((0, 1), (1, 1)), 0)), ("below", 2)), facts=(), sheet=sheet)
        self.check(((("kind", "y"), ("given", 1)), ("two", 1)), ((("given", 1),), ("two", 0)), facts=(), sheet=sheet)

    def test_steps_by_which_only_a_case_goes(self):
        steps = (("kind", "x"), ("cut", 16, 1), ("kind", "y"), ("cut", 16, 1))
        one = ((("kind", "x"), ("cut", 28, 1)), ("below", 33))
        two = ((("given", 0),), ("below", 30))
        self.check((steps, ("makers", "x", (one, two))),
                   ((("cut", 16, 1), ("cut", 16, 1)), ("makers", "x", (((("cut", 27, 1),), ("below", 30)), ((), ("below", 28))))))
        # The fact of a case is no step: it stays, whether something goes by it or not.
        self.check(((("kind", "x"),), ("makers", "x", (((("shaped", 28), ("tested", 29)), ("tests", 9, 30)),
                                                       ((("kind", "y"),), ("tests", 10, 28))))),
                   ((), ("makers", "x", (((("shaped", 27), ("tested", 28)), ("tests", 9, 29)), ((), ("tests", 10, 27))))))
        self.check(((("linked", "x", ()), ("cut", 19 - 3, 1)), ("either", 19, (((), ("below", 28)), ((), ("below", 29))))),
                   ((("cut", 16, 1),), ("either", 19, (((), ("below", 27)), ((), ("below", 28))))))

    def test_cases_by_a_fact_of_a_step(self):
        facts = (("both", ("either", ("sum", (), -1), ("sum", (), -1)), ("not", ("same", LEAF, LEAF))),)
        self.check(((("right", 0), ("linked", "x", ()), ("left", 0)), ("either", 3, (((), ("below", 4)), ((), ("below", 4))))),
                   ((("left", 0),), ("either", 1, (((), ("below", 2)), ((), ("below", 2))))), facts=facts)
        self.check(((("left", 0), ("linked", "x", ()), ("right", 0)), ("apart", 3, ())), ((("right", 0),), ("apart", 1, ())),
                   facts=facts)

    def test_all_kinds_of_steps(self):
        # Each step goes by copies of facts, and the end by its fact: whatever stands between is left out.
        facts = FACTS + (("both", ("same", "x", "z"), ("sum", (), -1)), ("not", ("not", ("test", "leaf", "z"))),
                         ("same", ("node", "x", "y"), NODE), ("sum", ((1, "y"),), 6), ("sum", ((2, "y"), (-4, "x")), 3))
        steps = (("given", 0), ("within", "x"), ("left", 27), ("right", 27), ("turned", 28), ("linked", "x", (0, 29)),
                 ("alike", "node", (0, 15)), ("alikepart", "node", 1, 0), ("inner", 29, 0), ("taken", 0, 1),
                 ("elsewhere", 9, "node", 0), ("tested", 13), ("shaped", 10), ("moved", 10, 0), ("moved", 25, 8), ("swapped", 20),
                 ("kind", "y"), ("counts", NODE, True), ("sized", 0, False), ("added", ((31, 1), (30, 2)), 4), ("cut", 31, 2),
                 ("gap", 30))
        for step in steps:
            fact = fact_by(SHEET, facts, step)
            self.check(built(facts, step, fact, True), built(facts, step, fact, False), facts=facts + (against(fact),))
        self.assertEqual(len({step[0] for step in steps}), 21)

    def test_all_kinds_of_ends(self):
        for end in ENDS:
            self.check(built_end(end, True), built_end(end, False))
        facts = FACTS + (("both", FACTS[19], FACTS[20]),)
        shut = ((), ("below", 16))
        for end, steps in ((("either", 19, (shut, shut)), (("left", 27),)), (("apart", 20, (shut, shut)), (("right", 27),))):
            paper = ((("kind", "x"),) + steps + (("kind", "y"),), (end[0], 29, end[2]))
            self.check(paper, (steps, (end[0], 28, end[2])), facts=facts)

    def test_against_leaving_out_one_by_one(self):
        chance = random.Random(41)
        for _ in range(150):
            paper = random_paper(chance, FACTS, 3)
            self.assertIs(is_shut(paper), True)
            wanted = plain_thinned(paper, len(FACTS))
            self.check(paper, wanted)
            self.assertLessEqual(length_of(wanted), length_of(paper))

    def test_of_what_is_not_shut(self):
        for thing in NEVER + ((), OPEN, ((), ("below", 27)), ((("left", 0),), ("below", 16)), ((), ("makers", "x", (SHUT,))),
                              [(), ("below", 16)], ((), ("makers", "x", (SHUT, OPEN)))):
            self.assertIs(type(refusal(lambda: thinned(SHEET, thing, facts=FACTS))), NoPaper, thing)
        self.assertIs(type(refusal(thinned, SHEET, SHUT)), NoPaper)


DUMMY = ("linked", "z", ())


def copied(facts, number, steps, many, has_dummies):
    """Put steps that make this fact again behind so many facts, where that can be; tell its number then."""
    fact = facts[number]
    base = fact[1] if fact[0] == "not" else fact
    if has_dummies:
        steps.append(DUMMY)
    if fact[0] == "same" and fact[1] != fact[2]:
        steps.append(("linked", fact[1], (number,)))
    elif fact[0] == "sum":
        steps.append(("added", ((number, 1),), 0))
    elif fact[0] == "test" or fact[0] == "not" and base[0] == "same":
        steps.append(("linked", fact[2] if fact[0] == "test" else base[1], ()))
        steps.append(("moved", number, many + len(steps) - 1))
    else:
        return number
    return many + len(steps) - 1


def with_copies(facts, row, steps, many, has_dummies):
    """A step or an end that goes by copies of its facts."""
    told = list(row)
    for at, place in enumerate(PLACES.get(row[0], "nfnnn")[:len(row)]):
        if place == "f":
            told[at] = copied(facts, row[at], steps, many, has_dummies)
        elif place == "r":
            told[at] = tuple(copied(facts, number, steps, many, has_dummies) for number in row[at])
        elif place == "p":
            told[at] = tuple((copied(facts, number, steps, many, has_dummies), times) for number, times in row[at])
    return tuple(told)


def built(facts, step, fact, has_dummies):
    """A paper that is shut by the fact of a step and what is against it, which stands behind the facts."""
    steps = []
    many = len(facts) + 1
    told = with_copies(facts, step, steps, many, has_dummies)
    steps += [DUMMY, told, DUMMY] if has_dummies else [told]
    number = many + len(steps) - (2 if has_dummies else 1)
    if fact[0] == "sum":
        steps.append(("added", ((number, 1), (many - 1, 1)), 0))
        return tuple(steps), ("below", many + len(steps) - 1)
    if fact[0] == "not":
        return tuple(steps), ("unlike", many - 1, number)
    return tuple(steps), ("tests" if fact[0] == "test" else "unlike", number, many - 1)


def built_end(end, has_dummies):
    """A paper whose end goes by copies of facts."""
    steps = []
    told = with_copies(FACTS, end, steps, len(FACTS), has_dummies)
    return tuple(steps), told


def random_paper(chance, facts, depth):
    """A shut paper behind facts."""
    steps = []
    here = list(facts)
    for _ in range(chance.randrange(6)):
        number = chance.randrange(len(here))
        other = chance.randrange(len(here))
        step = chance.choice((("kind", "x"), ("linked", "x", ()), ("cut", number, 1), ("added", ((number, 1), (other, 2)), 0),
                              ("sized", number, True), ("swapped", number), ("tested", number), ("shaped", number),
                              ("linked", "x", (number,)), ("moved", number, other), ("alike", "node", (number, other)),
                              ("inner", number, 1), ("taken", number, 0), ("alikepart", "node", 1, number),
                              ("turned", number), ("gap", number), ("elsewhere", number, "node", 0)))
        if refusal(fact_by, SHEET, tuple(here), step) is None:
            steps.append(step)
            here.append(fact_by(SHEET, tuple(here), step))
    ends = [("below", at) for at, fact in enumerate(here) if fact[0] == "sum" and not fact[1] and fact[2] < 0]
    ends += [("two", 3), ("unlike", 0, 2), ("ring", (0, 13, 14))]
    if depth == 0 or chance.random() < 0.3:
        return tuple(steps), chance.choice(ends)
    case, cases = chance.choice(((("makers", "x"), [("test", "node", "x"), ("test", "leaf", "x")]),
                                 (("sizes", "y", 4), [("sum", ((1, "y"),), 4), ("sum", ((-1, "y"),), -5)]),
                                 (("either", 19), [("sum", (), -1), ("sum", (), -2)]),
                                 (("apart", 20), [("not", ("same", "y", "z")), ("not", ("same", "z", "x"))])))
    papers = tuple(random_paper(chance, here + [fact], depth - 1) for fact in cases)
    return tuple(steps), case + (papers,)


class RefusalsTest(unittest.TestCase):

    def test_sheets(self):
        check_sheets_refused(self, shows_no, (SHUT,), (None,), ([],))
        check_sheets_refused(self, thinned, (SHUT,), (None,), ([],))
        check_sheets_refused(self, lambda sheet, paper: thinned(sheet, paper, facts=FACTS), (SHUT,), (None,))

    def test_nothing_is_changed(self):
        facts = copy.deepcopy(FACTS)
        paper = ((("given", 0), ("cut", 16, 1)), ("makers", "x", (((("kind", "x"),), ("below", 28)), SHUT)))
        kept = copy.deepcopy(paper)
        for _ in range(2):
            self.assertIs(is_shut(paper, facts), True)
            self.assertEqual(length_of(paper), 6)
            self.assertEqual(thinned(SHEET, paper, facts=facts),
                             ((("cut", 16, 1),), ("makers", "x", (((), ("below", 27)), SHUT))))
        self.assertEqual((facts, paper), (FACTS, kept))
        odd = [[("given", 0)], ["below", 16]]
        kept = copy.deepcopy(odd)
        for thing in (odd, tuple(odd), ((), odd), ((), ("makers", "x", odd))):
            self.assertIs(is_shut(thing), False)
            self.assertIs(type(refusal(length_of, thing)), NoPaper)
            self.assertIs(type(refusal(thinned, SHEET, thing)), NoPaper)
        self.assertEqual(odd, kept)

    def test_of_other_kinds(self):
        sheet = (LISTS, (("l", "list", None),), (("test", "nil", "l"), ("not", ("test", "nil", "l"))))
        self.assertIs(shows_no(sheet, ((("given", 0), ("given", 1)), ("tests", 0, 1))), True)
        self.assertIs(shows_no(sheet, ((("given", 0), ("given", 1)), ("tests", 1, 0))), False)


class InterfaceTest(unittest.TestCase):

    def test_names_and_arguments(self):
        wanted = {"shows_no": "(sheet, thing, *, facts=())", "length_of": "(paper)",
                  "thinned": "(sheet, paper, *, facts=())"}
        for name, arguments in wanted.items():
            function = getattr(module, name)
            self.assertEqual(function.__module__, "madesure.papers.papers")
            self.assertEqual(str(inspect.signature(function)), arguments)


if __name__ == "__main__":
    unittest.main()
