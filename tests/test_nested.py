import random
import unittest

from madesure.terms.nested import are_alike, is_within, written
from samples import chain_of


def random_thing(chance, depth):
    if depth == 0 or chance.random() < 0.3:
        return chance.choice(("x", "ab", "node", 0, 7, 12, -3, 10 ** 39))
    return tuple(random_thing(chance, depth - 1) for _ in range(chance.randrange(4)))


def plain_measure(thing):
    """How many texts and numbers are in a thing, and how many tuples within one another."""
    if not isinstance(thing, tuple):
        return 1, 0
    rows = [plain_measure(inner) for inner in thing]
    return sum(many for many, _ in rows), 1 + max((depth for _, depth in rows), default=0)


class NestedTest(unittest.TestCase):

    def test_written_is_the_repr(self):
        chance = random.Random(71)
        for thing in ((), ("x",), (("x",),), ("x", "y"), ((),), ((), ()), "x", 5, -5, (1, ("a", (2,)), ())):
            self.assertEqual(written(thing), repr(thing))
        for _ in range(500):
            thing = random_thing(chance, 5)
            self.assertEqual(written(thing), repr(thing))

    def test_written_however_deep(self):
        self.assertEqual(written(chain_of(20000)), "('next', " * 19999 + "('end',)" + ")" * 19999)

    def test_are_alike(self):
        chance = random.Random(72)
        things = [random_thing(chance, 2) for _ in range(60)]
        for one in things:
            for other in things:
                self.assertIs(are_alike(one, other), repr(one) == repr(other), (one, other))

    def test_truths_lists_and_numbers_are_not_alike(self):
        for one, other in ((1, True), (0, False), ((1,), (True,)), ((), []), (("x",), ["x"]), ((0,), 0), ("x", ("x",)),
                           (None, 0), ((None,), ()), ("1", 1)):
            self.assertIs(are_alike(one, other), False)
            self.assertIs(are_alike(other, one), False)
            self.assertIs(are_alike(one, one), True)

    def test_are_alike_however_deep(self):
        self.assertIs(are_alike(chain_of(20000), chain_of(20000)), True)
        self.assertIs(are_alike(chain_of(20000), chain_of(20001)), False)

    def test_is_within(self):
        chance = random.Random(73)
        for _ in range(300):
            thing = random_thing(chance, 4)
            many, depth = plain_measure(thing)
            for signs in (many - 1, many, many + 1):
                for tuples in (depth - 1, depth, depth + 1):
                    self.assertIs(is_within(thing, signs, tuples), many <= signs and depth <= tuples, thing)


if __name__ == "__main__":
    unittest.main()
