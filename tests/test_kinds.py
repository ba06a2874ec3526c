import copy
import inspect
import random
import unittest

from madesure.errors import NoKind, NoKinds, NoMaker
from madesure.kinds import kinds as module
from madesure.kinds.kinds import is_finite, is_kinds, is_name, kind_by, least_size, makers_of
from samples import (ALL_KINDS, BINARY, CHAIN, DAYS, GREAT, LATER, LISTS, MIXED, NEVER, check_refusals, leads_on,
                     plain_least, random_kinds, refusal, spoiled, spoiled_by_lists)

WORDS = ("mark", "part", "same", "test", "sum", "not", "both", "either")
BAD_NAMES = WORDS + ("", "abcdefghi", "Abc", "abC", "A", "a1", "1", "a_b", "_", "a b", " ", "a ", " a", "a-b", "a\n",
                     "\n", "-", "/", "`", "{", "a.b", "caf\u00e9", "\u03b1", "\uff41", "\u00aa")
OWN_NAMES = ("a", "z", "mar", "marks", "parts", "sums", "nota", "abcdefgh", "zzzzzzzz", "samesame", "test" * 2)


def kinds_named(kind, maker):
    return ((kind, ((maker, ()),)),)


class NamesTest(unittest.TestCase):

    def test_one_to_eight_small_letters(self):
        for name in OWN_NAMES:
            self.assertIs(is_name(name), True, name)
        for letter in "abcdefghijklmnopqrstuvwxyz":
            self.assertIs(is_name(letter), True, letter)
        for many in range(12):
            self.assertIs(is_name("a" * many), 1 <= many <= 8, many)

    def test_words_and_other_signs_are_no_names(self):
        for name in BAD_NAMES:
            self.assertIs(is_name(name), False, name)

    def test_what_is_no_text_is_no_name(self):
        for thing in (True, False, None, 0, 5, 10 ** 39, (), ("a",), [], ["a"], {}, {"a": "a"}, b"a", LISTS):
            self.assertIs(is_name(thing), False, thing)


class IsKindsTest(unittest.TestCase):

    def test_samples(self):
        for kinds in ALL_KINDS:
            self.assertIs(is_kinds(kinds), True, kinds)

    def test_names_of_kinds_and_makers(self):
        for name in OWN_NAMES:
            self.assertIs(is_kinds(kinds_named(name, "x")), True, name)
            self.assertIs(is_kinds(kinds_named("x", name)), True, name)
        for name in BAD_NAMES:
            self.assertIs(is_kinds(kinds_named(name, "x")), False, name)
            self.assertIs(is_kinds(kinds_named("x", name)), False, name)

    def test_one_to_five_kinds(self):
        for many in range(8):
            kinds = tuple((name, (("x" + name, ()),)) for name in "abcdefgh"[:many])
            self.assertIs(is_kinds(kinds), 1 <= many <= 5, many)

    def test_one_to_four_makers(self):
        for many in range(7):
            kinds = (("k", tuple((name, ()) for name in "abcdefg"[:many])),)
            self.assertIs(is_kinds(kinds), 1 <= many <= 4, many)
            self.assertIs(is_kinds((("z", (("end", ()),)),) + kinds), 1 <= many <= 4, many)

    def test_none_to_three_parts(self):
        for many in range(6):
            for part in ("mark", "k"):
                kinds = (("k", (("end", ()), ("more", (part,) * many))),)
                self.assertIs(is_kinds(kinds), many <= 3, many)

    def test_rows_of_other_lengths(self):
        self.assertIs(is_kinds((("k", (("end",),)),)), False)
        self.assertIs(is_kinds((("k", (("end", (), ()),)),)), False)
        self.assertIs(is_kinds((("k",),)), False)
        self.assertIs(is_kinds((("k", (("end", ()),), ()),)), False)
        self.assertIs(is_kinds(("k", (("end", ()),))), False)
        self.assertIs(is_kinds((("k", ("end", ())),)), False)

    def test_names_are_unlike(self):
        end = (("end", ()),)
        self.assertIs(is_kinds((("k", end), ("k", (("stop", ()),)))), False)
        self.assertIs(is_kinds((("k", end), ("l", end))), False)
        self.assertIs(is_kinds((("k", end), ("l", (("stop", ()), ("end", ()))))), False)
        self.assertIs(is_kinds((("k", (("end", ()), ("end", ()))),)), False)
        self.assertIs(is_kinds((("k", (("end", ()), ("end", ("mark",)))),)), False)
        self.assertIs(is_kinds((("k", (("k", ()),)),)), False)
        self.assertIs(is_kinds((("k", (("l", ()),)), ("l", end))), False)
        self.assertIs(is_kinds((("k", end), ("l", (("k", ()),)))), False)

    def test_parts_are_kinds_or_mark(self):
        for part in ("mark", "k", "l"):
            self.assertIs(is_kinds((("k", (("end", ()), ("more", (part,)))), ("l", (("stop", ()),)))), True, part)
        for part in ("end", "more", "m", "", "part", "sum", "Mark", "k ", 0, None, True, [], {}, (), ("k",), ["k"]):
            for parts in ((part,), ("k", part), (part, "k", "mark"), ("mark", "k", part)):
                kinds = (("k", (("end", ()), ("more", parts))), ("l", (("stop", ()),)))
                self.assertIs(is_kinds(kinds), False, parts)
        self.assertIs(is_kinds((("k", (("end", ()), ("more", "k"))),)), False)

    def test_each_kind_has_some_tree(self):
        self.assertIs(is_kinds((("k", (("more", ("k",)),)),)), False)
        self.assertIs(is_kinds((("k", (("more", ("k", "mark")), ("most", ("mark", "k")))),)), False)
        self.assertIs(is_kinds((("k", (("more", ("k",)), ("end", ("mark",)))),)), True)
        # Of two one has none.
        self.assertIs(is_kinds((("k", (("end", ()),)), ("l", (("more", ("k", "l")),)))), False)
        self.assertIs(is_kinds((("l", (("more", ("k", "l")),)), ("k", (("end", ()),)))), False)
        self.assertIs(is_kinds((("k", (("end", ()), ("far", ("l",)))), ("l", (("more", ("k", "l")),)))), False)
        # Rings of such, of two to five kinds, without a way out and with one.
        for many in range(2, 6):
            names = "abcde"[:many]
            ring = tuple((name, (("x" + name, (names[(at + 1) % many],)),)) for at, name in enumerate(names))
            self.assertIs(is_kinds(ring), False, many)
            for at in range(many):
                way = (ring[at][0], ring[at][1] + (("out", ("mark",)),))
                self.assertIs(is_kinds(ring[:at] + (way,) + ring[at + 1:]), True, (many, at))
        self.assertIs(is_kinds(tuple(reversed(GREAT))), True)

    def test_some_tree_of_random_kinds(self):
        chance = random.Random(4)
        seen = []
        for _ in range(400):
            kinds = random_kinds(chance)
            wanted = all(plain_least(kinds, kind) is not None for kind, _ in kinds)
            self.assertIs(is_kinds(kinds), wanted, kinds)
            seen.append(wanted)
        self.assertGreater(seen.count(True), 50)
        self.assertGreater(seen.count(False), 50)

    def test_lists_in_the_place_of_tuples(self):
        for kinds in ALL_KINDS:
            others = spoiled_by_lists(kinds)
            self.assertGreater(len(others), len(kinds))
            for other in others:
                self.assertIs(is_kinds(other), False, other)

    def test_odd_things_in_the_place_of_anything(self):
        for odd in NEVER + (0, 7, 10 ** 39):
            for kinds in (LISTS, MIXED):
                for other in spoiled(kinds, lambda inner: odd):
                    self.assertIs(is_kinds(other), False, other)


class AskedTest(unittest.TestCase):

    def test_makers_of_as_they_stand(self):
        for kinds in ALL_KINDS:
            for kind, makers in kinds:
                self.assertEqual(makers_of(kinds, kind), makers)
                self.assertIsInstance(makers_of(kinds, kind), tuple)
            self.assertEqual(makers_of(kinds, "mark"), ())
        self.assertEqual(makers_of(BINARY, "tree"), (("node", ("tree", "tree")), ("leaf", ())))

    def test_kind_by_each_maker(self):
        for kinds in ALL_KINDS:
            for kind, makers in kinds:
                for maker, _ in makers:
                    self.assertEqual(kind_by(kinds, maker), kind)
        self.assertEqual(kind_by(LISTS, "pair"), "item")

    def test_least_size(self):
        wanted = ((BINARY, "tree", 1), (LISTS, "list", 1), (LISTS, "item", 2), (DAYS, "day", 1), (MIXED, "box", 2),
                  (MIXED, "lid", 1), (LATER, "late", 1), (LATER, "side", 2), (GREAT, "e", 4), (GREAT, "d", 13),
                  (GREAT, "c", 40), (GREAT, "b", 121), (GREAT, "a", 364), (tuple(reversed(GREAT)), "a", 364))
        for kinds, kind, size in wanted:
            self.assertEqual(least_size(kinds, kind), size)
        for kinds in ALL_KINDS:
            self.assertEqual(least_size(kinds, "mark"), 1)

    def test_least_size_by_a_maker_behind(self):
        self.assertEqual(least_size((("k", (("far", ("mark",) * 3), ("near", ("mark",)))),), "k"), 2)
        self.assertEqual(least_size((("k", (("far", ("l",)), ("near", ("mark", "mark")))),
                                     ("l", (("great", ("mark", "mark")),))), "k"), 3)

    def test_least_size_and_finite_of_random_kinds(self):
        chance = random.Random(5)
        seen = []
        for _ in range(600):
            kinds = random_kinds(chance)
            if is_kinds(kinds):
                for kind, _ in kinds:
                    self.assertEqual(least_size(kinds, kind), plain_least(kinds, kind), kinds)
                    self.assertIs(is_finite(kinds, kind), not leads_on(kinds, kind), kinds)
                    seen.append(is_finite(kinds, kind))
        self.assertGreater(seen.count(True), 30)
        self.assertGreater(seen.count(False), 100)

    def test_finite_kinds(self):
        self.assertIs(is_finite(DAYS, "day"), True)
        steps = (("a", (("fa", ("b", "c", "c")), ("ga", ("c",)))), ("b", (("fb", ("c", "c")),)),
                 ("c", (("fc", ()), ("gc", ()))))
        for kinds in (steps, steps[::-1]):
            for kind in "abc":
                self.assertIs(is_finite(kinds, kind), True)
        long = tuple((name, (("x" + name, (after,)),)) for name, after in zip("abcd", "bcde")) + (("e", (("xe", ()),)),)
        for kinds in (long, long[::-1]):
            for kind in "abcde":
                self.assertIs(is_finite(kinds, kind), True)

    def test_endless_kinds(self):
        for kinds in ALL_KINDS:
            self.assertIs(is_finite(kinds, "mark"), False)
        kinds = (("a", (("xa", ()), ("ya", ("mark",)))), ("b", (("xb", ()), ("yb", ("b",)))),
                 ("c", (("xc", ()), ("yc", ("a",)))), ("d", (("xd", ("e", "b")),)), ("e", (("xe", ()),)))
        for kind in "abcd":
            self.assertIs(is_finite(kinds, kind), False, kind)
        self.assertIs(is_finite(kinds, "e"), True)
        for kinds, kind in ((BINARY, "tree"), (CHAIN, "chain"), (LISTS, "list"), (LISTS, "item"), (GREAT, "a")):
            self.assertIs(is_finite(kinds, kind), False)

    def test_endless_by_a_ring(self):
        kinds = (("a", (("xa", ("b",)), ("ya", ()))), ("b", (("xb", ("c",)),)), ("c", (("xc", ("a",)), ("yc", ()))))
        for kind in "abc":
            self.assertIs(is_finite(kinds, kind), False)

    def test_a_name_is_not_finite_by_the_company_it_keeps(self):
        kinds = (("a", (("xa", ()),)), ("b", (("xb", ("mark", "a")),)))
        self.assertIs(is_finite(kinds, "a"), True)
        self.assertIs(is_finite(kinds, "b"), False)


class RefusalsTest(unittest.TestCase):
    NO_KINDS = tuple((thing, NoKinds) for thing in NEVER + ((), BINARY[0], list(BINARY), dict(BINARY), BINARY + BINARY))
    NO_KIND = tuple((thing, NoKind) for thing in NEVER + ("leaf", "node", "item", "other", "trees", "part", 0, ("tree",)))
    NO_MAKER = tuple((thing, NoMaker) for thing in NEVER + ("tree", "mark", "nil", "other", "part", 0, ("leaf",)))

    def test_refusals(self):
        for function in (makers_of, least_size, is_finite):
            check_refusals(self, function, (BINARY, "tree"), (self.NO_KINDS, self.NO_KIND))
        check_refusals(self, kind_by, (BINARY, "leaf"), (self.NO_KINDS, self.NO_MAKER))

    def test_kinds_with_one_thing_odd_are_refused(self):
        for function, last in ((makers_of, "list"), (least_size, "list"), (is_finite, "list"), (kind_by, "nil")):
            for kinds in spoiled(LISTS, lambda inner: None):
                self.assertIs(type(refusal(function, kinds, last)), NoKinds)

    def test_nothing_is_changed_and_the_same_is_told_again(self):
        odd = [["tree", [["leaf", {}]]], {"tree": [1]}, None]
        kept = copy.deepcopy(odd)
        for thing in odd:
            for function in (is_name, is_kinds):
                self.assertIs(function(thing), False)
            for function in (makers_of, least_size, is_finite, kind_by):
                self.assertIs(type(refusal(function, thing, thing)), NoKinds)
                self.assertIn(type(refusal(function, BINARY, thing)), (NoKind, NoMaker))
        self.assertEqual(odd, kept)
        for function, args in ((makers_of, (LISTS, "item")), (least_size, (LISTS, "item")), (kind_by, (LISTS, "sub"))):
            kept = copy.deepcopy(args)
            told = function(*args)
            self.assertEqual(function(*args), told)
            self.assertEqual(args, kept)


class InterfaceTest(unittest.TestCase):

    def test_names_and_arguments(self):
        wanted = {"is_name": ["thing"], "is_kinds": ["thing"], "makers_of": ["kinds", "kind"],
                  "kind_by": ["kinds", "maker"], "least_size": ["kinds", "kind"], "is_finite": ["kinds", "kind"]}
        for name, arguments in wanted.items():
            function = getattr(module, name)
            self.assertEqual(function.__module__, "madesure.kinds.kinds")
            self.assertEqual(list(inspect.signature(function).parameters), arguments)


if __name__ == "__main__":
    unittest.main()
