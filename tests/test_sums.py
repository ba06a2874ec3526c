import copy
import inspect
import random
import unittest
from itertools import product

from madesure.decide import sums as module
from madesure.decide.sums import decide_sums, shows_sums
from madesure.errors import NoSums
from madesure.papers.papers import length_of
from samples import NEVER, check_refusals, refusal, spoiled, spoiled_by_lists

SPANS = (("a", 0, 5), ("b", 2, 4), ("c", 3, 3))
SUMS = (("sum", ((2, "a"), (-3, "b")), -4), ("sum", ((-1, "a"), (1, "c")), 2))
# By the sums a is at least 4 and at most 3.
NONE = (("sum", ((-2, "a"), (1, "c")), -5), ("sum", ((1, "a"),), 3))
PAPER = ((("given", 0), ("given", 1), ("span", "c", False), ("added", ((0, 1), (2, 1)), 0), ("cut", 3, 2),
          ("added", ((1, 1), (4, 1)), 0)), ("below", 5))


def plain_numbers(spans, sums):
    """All numbers within the spans by which all sums hold."""
    names = [name for name, _, _ in spans]
    found = []
    for numbers in product(*[range(low, high + 1) for _, low, high in spans]):
        worth = dict(zip(names, numbers))
        if all(sum(factor * worth[name] for factor, name in rows) <= most for _, rows, most in sums):
            found.append(numbers)
    return found


def random_spans(chance, most_ways):
    many = chance.randint(1, 6)
    rows = []
    ways = 1
    for name in ("a", "b", "c", "d", "e", "f")[:many]:
        low = chance.randint(0, 60)
        high = min(60, low + chance.choice((0, 0, 1, 2, 5, 60)), low + most_ways // ways - 1)
        ways *= high - low + 1
        rows.append((name, low, high))
    chance.shuffle(rows)
    return tuple(rows)


def random_sums(chance, spans):
    """Sums about as great as they can be within the spans."""
    sums = []
    for _ in range(chance.randint(0, 10)):
        rows = [(chance.choice((-9, -7, -2, -1, 1, 1, 2, 3, 8)), row) for row in chance.sample(spans, chance.randint(0, len(spans)))]
        number = sum(factor * chance.randint(low, high) for factor, (_, low, high) in rows) + chance.randint(-3, 2)
        sums.append(("sum", tuple((factor, row[0]) for factor, row in rows), max(-500, min(500, number))))
    return tuple(sums)


class DecideTest(unittest.TestCase):

    def check(self, spans, sums):
        told = decide_sums(spans, sums)
        found = plain_numbers(spans, sums)
        self.assertEqual(told[0], "yes" if found else "no", (spans, sums))
        self.assertIs(type(told), tuple)
        self.assertEqual(len(told), 2)
        if found:
            self.assertIn(told[1], found)
        self.assertIs(shows_sums(spans, sums, told), True, (spans, sums, told))
        return told

    def test_by_hand(self):
        self.assertEqual(self.check(SPANS, SUMS)[0], "yes")
        self.assertEqual(self.check(SPANS, NONE)[0], "no")
        self.assertEqual(decide_sums((("a", 7, 7),), ()), ("yes", (7,)))
        self.assertEqual(decide_sums((("a", 0, 60),), (("sum", ((-1, "a"),), -60),)), ("yes", (60,)))
        self.assertEqual(decide_sums((("a", 0, 60),), (("sum", ((1, "a"),), 0),)), ("yes", (0,)))
        self.assertEqual(self.check((("a", 0, 60),), (("sum", ((-1, "a"),), -61),))[0], "no")
        self.assertEqual(self.check((("a", 0, 0),), (("sum", (), -1),))[0], "no")
        self.assertEqual(self.check((("a", 0, 0),), (("sum", (), 0),))[0], "yes")

    def test_numbers_stand_as_the_spans_do(self):
        sums = (("sum", ((1, "b"), (-1, "a")), -10), ("sum", ((1, "a"),), 12), ("sum", ((-1, "b"),), -2))
        self.assertEqual(decide_sums((("a", 0, 60), ("b", 0, 60)), sums), ("yes", (12, 2)))
        self.assertEqual(decide_sums((("b", 0, 60), ("a", 0, 60)), sums), ("yes", (2, 12)))

    def test_small_ones_all(self):
        spans = (("a", 0, 2), ("b", 1, 3))
        for first in product((-2, -1, 1, 3), repeat=2):
            for second in product((-3, 1, 2), repeat=2):
                for most, other in ((-4, 3), (-1, -1), (0, 0), (2, -5)):
                    sums = (("sum", tuple(zip(first, "ab")), most), ("sum", tuple(zip(second, "ba")), other))
                    self.check(spans, sums)

    def test_random_ones(self):
        chance = random.Random(51)
        seen = {"yes": 0, "no": 0}
        for _ in range(700):
            spans = random_spans(chance, 300)
            seen[self.check(spans, random_sums(chance, spans))[0]] += 1
        self.assertGreater(min(seen.values()), 100)

    def test_even_and_odd(self):
        spans = (("a", 0, 60), ("b", 0, 60), ("c", 0, 25))
        for factors in ((2, 4, -6), (6, -9, 3), (8, 4, 4)):
            for number in (1, 5, 7, 13):
                rows = tuple(zip(factors, "abc"))
                turned = tuple((-factor, name) for factor, name in rows)
                self.assertEqual(self.check(spans, (("sum", rows, number), ("sum", turned, -number)))[0], "no")
                self.assertEqual(self.check(spans, (("sum", rows, 12), ("sum", turned, -12)))[0], "yes")

    def test_the_most_ways(self):
        spans = tuple((name, 0, 9) for name in "abcde")
        sums = (("sum", tuple((1, name) for name in "abcde"), 22), ("sum", tuple((-1, name) for name in "abcde"), -22),
                ("sum", ((1, "a"), (-1, "b"), (1, "c"), (-1, "d"), (1, "e")), 3),
                ("sum", ((-1, "a"), (1, "b"), (-1, "c"), (1, "d"), (-1, "e")), -3))
        told = decide_sums(spans, sums)
        self.assertEqual(told[0], "no")
        self.assertIs(shows_sums(spans, sums, told), True)
        spans = (("a", 0, 60), ("b", 0, 60), ("c", 0, 25))
        told = decide_sums(spans, (("sum", ((9, "a"), (-7, "b"), (5, "c")), 91), ("sum", ((-9, "a"), (7, "b"), (-5, "c")), -91)))
        self.assertEqual(told[0], "yes")

    def test_the_same_is_told_again(self):
        spans, sums = copy.deepcopy((SPANS, NONE))
        told = decide_sums(spans, sums)
        self.assertEqual(decide_sums(spans, sums), told)
        self.assertEqual((spans, sums), (SPANS, NONE))


class ShowsTest(unittest.TestCase):

    def test_just_the_numbers_by_which_all_hold(self):
        found = plain_numbers(SPANS, SUMS)
        self.assertGreater(len(found), 2)
        for numbers in product(range(-1, 7), repeat=3):
            self.assertIs(shows_sums(SPANS, SUMS, ("yes", numbers)), numbers in found, numbers)
        for thing in (found[0][:2], found[0] + (3,), list(found[0]), (), None, dict(zip("abc", found[0])), 5, "abc",
                      (True, 2, 3), (1, 2, "3"), (None, 2, 3), ((1,), 2, 3)):
            self.assertIs(shows_sums(SPANS, SUMS, ("yes", thing)), False, thing)
        self.assertIs(shows_sums((("a", 0, 1),), (), ("yes", (True,))), False)
        self.assertIs(shows_sums((("a", 0, 1),), (), ("yes", (1,))), True)
        self.assertIs(shows_sums((("a", 0, 1),), (), ("yes", (2,))), False)

    def test_a_paper_by_hand(self):
        self.assertIs(shows_sums(SPANS, NONE, ("no", PAPER)), True)
        self.assertIs(shows_sums(SPANS, SUMS, ("no", PAPER)), False)
        self.assertIs(shows_sums(SPANS[::-1], NONE, ("no", PAPER)), True)
        # By one less to be at most there is an answer.
        self.assertIs(shows_sums(SPANS, (NONE[0], ("sum", ((1, "a"),), 4)), ("no", PAPER)), False)
        self.assertIs(shows_sums((("a", 0, 5), ("c", 2, 3)), NONE, ("no", PAPER)), True)
        self.assertIs(shows_sums((("a", 0, 5), ("c", 1, 3)), NONE, ("no", PAPER)), False)

    def test_cases_of_sizes(self):
        low = ((("given", 1), ("span", "c", False)), ("below", 3))
        self.assertIs(shows_sums(SPANS, NONE, ("no", ((), ("sizes", "a", 3, (low, low))))), False)
        # At most 3: twice that and the first sum; at least 4: with the second one.
        one = ((("given", 0), ("span", "c", False), ("added", ((1, 1), (2, 1), (0, 2)), 0)), ("below", 3))
        two = ((("given", 1), ("added", ((0, 1), (1, 1)), 0)), ("below", 2))
        self.assertIs(shows_sums(SPANS, NONE, ("no", ((), ("sizes", "a", 3, (one, two))))), True)
        for bent in (("sizes", "a", 3, (two, one)), ("sizes", "a", 3, (one,)), ("sizes", "a", 3, (one, two, two)),
                     ("sizes", "a", 3, [one, two]), ("sizes", "b", 3, (one, two)), ("sizes", "d", 3, (one, two)),
                     ("sizes", "a", 4, (one, two)), ("sizes", "a", 2, (one, two)), ("sizes", "a", True, (one, two)),
                     ("sizes", "a", None, (one, two)), ("sizes", 3, 3, (one, two)), ("sizes", ("a",), 3, (one, two)),
                     ("sizes", [], 3, (one, two)), ("sizes", "a", 3), ("sizes", "a", 3, (one, two), ())):
            self.assertIs(shows_sums(SPANS, NONE, ("no", ((), bent))), False, bent)

    def test_cases_of_sizes_of_names_alone(self):
        shut = ((("given", 0),), ("below", 1))
        sums = (("sum", (), -1),)
        for name, wanted in (("a", True), ("b", True), ("d", False), ("", False), (0, False), (("a",), False), (["a"], False),
                             (None, False), (True, False), ({}, False)):
            self.assertIs(shows_sums(SPANS, sums, ("no", ((), ("sizes", name, 2, (shut, shut))))), wanted, name)
        for number, wanted in ((0, True), (-7, True), (10 ** 39, True), (True, False), (None, False), ("2", False), ((2,), False)):
            self.assertIs(shows_sums(SPANS, sums, ("no", ((), ("sizes", "a", number, (shut, shut))))), wanted, number)

    def check_step(self, step, wanted, spans=SPANS, sums=NONE):
        """Whether a thing is a step: put in front, nothing else goes by its fact."""
        steps = tuple(after_one(other) for other in PAPER[0])
        paper = ((step,) + steps, ("below", 6))
        self.assertIs(shows_sums(spans, sums, ("no", paper)), wanted, step)

    def test_steps(self):
        for step in (("given", 0), ("given", 1), ("span", "a", True), ("span", "b", False)):
            self.check_step(step, True)
        for step in (("given", 2), ("given", -1), ("given", True), ("given", "0"), ("given",), ("given", 0, 0),
                     ("span", "d", True), ("span", "a", 1), ("span", "a", 0), ("span", "a", None), ("span", "a"),
                     ("span", 0, True), ("span", ["a"], True), ("span", "a", True, True), ("cut", 0, 1), ("cut", 1, 1),
                     ("added", ((0, 1),), 0), ("within", "a"), ("kind", "a"), ("counts", "a", True), ("linked", "a", ()),
                     ("gap", 0), ("left", 0), ("other", 0, 0), (), None, "given", ["given", 0], ("given", [0]), (None, 0)):
            self.check_step(step, False)

    def test_the_bounds_of_spans(self):
        spans = (("a", 2, 7),)
        for up, end in ((True, 8), (False, 1)):
            for number in range(-1, 11):
                # By a sum that asks for a number beyond it is below.
                rows = ((-1, "a"),) if up else ((1, "a"),)
                sums = (("sum", rows, -number if up else number),)
                paper = ((("given", 0), ("span", "a", up), ("added", ((0, 1), (1, 1)), 0)), ("below", 2))
                self.assertIs(shows_sums(spans, sums, ("no", paper)), number >= end if up else number <= end)

    def test_ends(self):
        sums = (("sum", (), -1), ("sum", (), 0), ("sum", ((1, "a"),), -1))
        for end, wanted in ((("below", 0), True), (("below", 1), False), (("below", 2), False), (("below", 3), False),
                            (("below", -3), False), (("below", True), False), (("below", None), False), (("below",), False),
                            (("below", 0, 0), False), (("two", 0), False), (("unlike", 0, 0), False), (("ring", (0,)), False),
                            (("unlike", "a", 0), False), (("tests", "a", 3), False), (("makers", "a", 3), False),
                            (("tests", 0, 0), False), (("apart", 0, ()), False), (("makers", "a", ()), False),
                            (("either", 0, ()), False), (["below", 0], False), (None, False), ((), False)):
            paper = ((("given", 0), ("given", 1), ("given", 2)), end)
            self.assertIs(shows_sums(SPANS, sums, ("no", paper)), wanted, end)

    def test_rows_in_the_order_of_names(self):
        spans = (("b", 0, 3), ("a", 0, 3))
        sums = (("sum", ((3, "b"), (-3, "a")), -1), ("sum", ((-3, "b"), (3, "a")), -1))
        paper = ((("given", 0), ("given", 1), ("cut", 0, 3), ("cut", 1, 3), ("added", ((2, 1), (3, 1)), 1)), ("below", 4))
        self.assertIs(shows_sums(spans, sums, ("no", paper)), True)
        paper = (paper[0][:-1] + (("added", ((2, 1), (3, 1)), 2),), ("below", 4))
        self.assertIs(shows_sums(spans, sums, ("no", paper)), False)

    def test_bent_papers(self):
        for spans, sums in ((SPANS, NONE), ((("a", 0, 9), ("b", 0, 9)), (("sum", ((3, "a"), (-2, "b")), -1),
                                                                        ("sum", ((-3, "a"), (2, "b")), 0)))):
            told = decide_sums(spans, sums)
            self.assertEqual(told[0], "no")
            for thing in (told, ("no", PAPER) if sums == NONE else told):
                for other in spoiled_by_lists(thing):
                    self.assertIs(shows_sums(spans, sums, other), False, other)
                for odd in NEVER + ("other", ("w",), 500, 10 ** 39):
                    for other in spoiled(thing, lambda inner: odd):
                        if odd not in (500, 10 ** 39):
                            self.assertIs(shows_sums(spans, sums, other), repr(other) == repr(thing), other)
                        elif shows_sums(spans, sums, other):
                            # That may be a greater times or a greater divisor.
                            self.assertEqual(plain_numbers(spans, sums), [])

    def test_of_anything(self):
        for thing in NEVER + ((), ("yes",), ("no",), ("yes", (1, 2, 3), ()), ("no", PAPER, ()), PAPER, ("maybe", PAPER),
                              ("yes", PAPER), ("no", (4, 3, 3)), ["no", PAPER], (True, PAPER), (None, PAPER), (["no"], PAPER),
                              ("open", ()), 5, SPANS, NONE):
            self.assertIs(shows_sums(SPANS, NONE, thing), False, thing)

    def test_just_one_can_be(self):
        chance = random.Random(52)
        for _ in range(150):
            spans = random_spans(chance, 60)
            sums = random_sums(chance, spans)
            other = random_sums(chance, spans)
            told = decide_sums(spans, sums)
            # What is told of others is right of these only where it fits.
            for thing in (decide_sums(spans, other), told):
                if shows_sums(spans, sums, thing):
                    self.assertEqual(thing[0], told[0])


def after_one(step):
    """A step as it is behind one fact more."""
    if step[0] == "added":
        return ("added", tuple((number + 1, times) for number, times in step[1]), step[2])
    return ("cut", step[1] + 1, step[2]) if step[0] == "cut" else step


class RefusalsTest(unittest.TestCase):
    NO_SPANS = tuple((thing, NoSums) for thing in NEVER + (
        (), tuple((name, 0, 1) for name in "abcdefg"), list(SPANS), ("a", 0, 1), (("a", 0),), (("a", 0, 1, 2),), (["a", 0, 1],),
        (("a", 0, 61),), (("a", -1, 3),), (("a", 4, 3),), (("a", 0, 1), ("a", 2, 3)), (("A", 0, 1),), (("", 0, 1),),
        (("sum", 0, 1),), (("mark", 0, 1),), (("abcdefghi", 0, 1),), ((1, 0, 1),), ((None, 0, 1),), ((["a"], 0, 1),),
        (("a", True, 3),), (("a", 0, True),), (("a", None, 3),), (("a", 0, "3"),), (("a", 0, 10 ** 39),), (None,),
        SPANS[:1] + (("c", 0, 60), ("b", 0, 60), ("d", 0, 60)), tuple((name, 0, 9) for name in "abcde") + (("f", 0, 1),)))
    NO_SUMS = tuple((thing, NoSums) for thing in NEVER + (
        SUMS[0], list(SUMS), SUMS[:1] * 11, (None,), (list(SUMS[0]),), (("sum", (), 0, 0),), (("sum", ()),), (("sun", (), 0),),
        (("sum", ((1, "d"),), 0),), (("sum", ((0, "a"),), 0),), (("sum", ((10, "a"),), 0),), (("sum", ((-10, "a"),), 0),),
        (("sum", ((1, "a"), (2, "a")), 0),), (("sum", ((1, "a"),), 501),), (("sum", ((1, "a"),), -501),),
        (("sum", ((True, "a"),), 0),), (("sum", ((1, "a"),), False),), (("sum", ((1, 3),), 0),), (("sum", ((1, ("a",)),), 0),),
        (("sum", [(1, "a")], 0),), (("sum", ([1, "a"],), 0),), (("sum", ((1, "a", 1),), 0),), (("sum", ((1,),), 0),),
        (("same", "a", "b"),), (("not", SUMS[0]),), SUMS + (None,), (("sum", ((1, []),), 0),), (("sum", (5,), 0),)))

    def test_refusals(self):
        check_refusals(self, decide_sums, (SPANS, SUMS), (self.NO_SPANS, self.NO_SUMS))
        # Without sums nothing but the spans can be refused.
        check_refusals(self, decide_sums, (SPANS, ()), (self.NO_SPANS, ()))
        check_refusals(self, lambda spans, sums: shows_sums(spans, sums, ("yes", (0, 2, 3))), (SPANS, ()), (self.NO_SPANS, ()))
        check_refusals(self, lambda spans, sums: shows_sums(spans, sums, ("no", PAPER)), (SPANS, SUMS),
                       (self.NO_SPANS, self.NO_SUMS))
        check_refusals(self, lambda spans, sums: shows_sums(spans, sums, []), (SPANS, SUMS), (self.NO_SPANS, self.NO_SUMS))

    def test_the_most_and_one_more(self):
        six = tuple((name, 0, 0) for name in "abcdef")
        for spans, sums in ((six, ()), (SPANS, SUMS[:1] * 10), ((("a", 60, 60),), ()), ((("a", 0, 60),), ()),
                            (tuple((name, 0, 9) for name in "abcde"), ()), (six, (("sum", tuple((9, row[0]) for row in six), 500),)),
                            (SPANS, (("sum", ((-9, "a"),), -500),)), ((("abcdefgh", 0, 1),), (("sum", ((1, "abcdefgh"),), 0),))):
            self.assertIsNone(refusal(decide_sums, spans, sums), (spans, sums))
        self.assertIs(type(refusal(decide_sums, six + (("g", 0, 0),), ())), NoSums)
        self.assertIs(type(refusal(decide_sums, SPANS, SUMS[:1] * 11)), NoSums)
        self.assertIs(type(refusal(decide_sums, tuple((name, 0, 9) for name in "abcd") + (("e", 0, 10),), ())), NoSums)

    def test_nothing_is_changed(self):
        odd = [[("a", 0, 1)], {"sum": []}]
        kept = copy.deepcopy(odd)
        for args in ((odd, odd), (tuple(odd), odd), (SPANS, odd), (SPANS, tuple(odd))):
            self.assertIs(type(refusal(decide_sums, *args)), NoSums)
            self.assertIs(type(refusal(shows_sums, *args, odd)), NoSums)
        self.assertIs(shows_sums(SPANS, SUMS, odd), False)
        self.assertEqual(odd, kept)

    def test_lengths(self):
        self.assertEqual(length_of(PAPER), 7)
        self.assertEqual(length_of(decide_sums((("a", 0, 0),), (("sum", (), 3), ("sum", (), -1)))[1]), 3)


class InterfaceTest(unittest.TestCase):

    def test_names_and_arguments(self):
        for name, arguments in (("decide_sums", "(spans, sums)"), ("shows_sums", "(spans, sums, thing)")):
            function = getattr(module, name)
            self.assertEqual(function.__module__, "madesure.decide.sums")
            self.assertEqual(str(inspect.signature(function)), arguments)


if __name__ == "__main__":
    unittest.main()
