import inspect
import random
import unittest

from madesure.ask.answers import answer_at, least, many_answers
from madesure.ask.cores import core
from madesure.decide.search import decide, width_of
from madesure.errors import NoCore, NoFormula, NoLevel, NoLine, NoNames, NoNumber, TooMany, TooWide
from madesure.terms.meaning import first_false
from madesure.words import desk as module
from madesure.words.desk import Desk
from madesure.words.texts import read_sheet, read_term, sheet_text
from samples import NEVER, random_sheet, refusal

KINDS = "kinds kind list cons item list , nil / kind item count mark , pair item item , sub list"
TREES = "kinds kind tree node tree tree , leaf"
CHAINS = "kinds kind chain next chain , end"
NO_ROWS = ("", " ", "kind", "kinds", "Ask", "ask ", " ask", "ask x", "ask\n", "ask  ", "level 1", "level ", "leave x", "back 1", "back ", "core ", "core 1",
           "least ", "least 3", "sheet ", "sheet x", "tree", "tree ", "tree x y", "many", "many ", "many 5", "many 5 ", "many  5 1", "many 5  1", "many 5 1 1",
           "many -1 1", "many 5 -1", "many 05 1", "many 5 01", "many x 1", "many 5 x", "many 99999999999 1", "many 5 99999999999", "many +5 1", "many 5 -0",
           "name", "name ", "name x", "name x ", "name  x tree", "name x tree ", "name x  tree", "name x tree -1", "name x tree 05", "name x tree 5 5",
           "name x tree five", "name x tree 99999999999", "name X tree", "name same tree", "name x Tree", "name x both", "name abcdefghi tree",
           "name x abcdefghi", "name mark tree", "name x1 tree", "put", "follows", "Put test leaf x", "puttest leaf x", "put\ttest leaf x", "asks", "do",
           "all", "quit", "kind tree node tree tree , leaf", "formula test leaf x", "ask / ask", "ask\nask", "shut", "decide")
NO_KINDS = ("kinds ", "kinds kind", "kinds kind ", "kinds kind tree", "kinds tree leaf", "kinds kind tree leaf ,", "kinds kind tree leaf other", "kinds  kind tree leaf",
            "kinds kind tree leaf ", "kinds kind tree leaf /", "kinds kind tree leaf / ", "kinds kind tree leaf / kind tree leaf", "kinds kind tree leaf/kind a b",
            "kinds kind tree leaf  / kind a b", "kinds kind tree leaf\nkind a b", "kinds kind tree node tree tree", "kinds kind mark leaf", "kinds kind Tree leaf",
            "kinds kind tree leaf / name x tree", "kinds " + " / ".join("kind k%s m%s" % (sign, sign) for sign in "abcdef"))


def desk_of(*rows):
    desk = Desk()
    desk.many(rows)
    return desk


def say(desk, row):
    """What is told, or the class and the number of the refusal."""
    try:
        return desk.say(row)
    except (ValueError, LookupError) as error:
        return type(error), getattr(error, "number", None)


class RowsTest(unittest.TestCase):

    def check(self, *pairs):
        desk = Desk()
        for row, wanted in pairs:
            self.assertEqual(say(desk, row), wanted, row)
        self.assertEqual(len(desk), len(pairs))
        return desk

    def test_each_row(self):
        self.check((TREES, "ok"), ("sheet", TREES[6:]), ("ask", "yes"), ("core", (NoCore, None)), ("least", "0"), ("many 0 0", "1"), ("many 40 1000000", "1"),
                   ("name x tree", "ok"), ("name y tree 5", "ok"), ("name m mark 0", "ok"), ("back", "ok"), ("name m mark", "ok"),
                   ("sheet", TREES[6:] + " / name x tree / name y tree 5 / name m mark"), ("put same x node y y", "ok"), ("ask", "yes"),
                   ("tree x", "node leaf leaf"), ("tree y", "leaf"), ("tree m", "0"), ("tree z", (NoLine, None)), ("follows test node x", "yes"),
                   ("follows test node y", "no"), ("least", "5"), ("many 5 3", "3"), ("many 9 1", "1"), ("many 11 1", "2"), ("level", "ok"), ("put test node y", "ok"),
                   ("tree x", (NoLine, None)), ("least", "11"), ("put same x leaf", "ok"), ("ask", "no"), ("tree x", (NoLine, None)), ("core", "0 2"),
                   ("least", "none"), ("many 40 1", (TooMany, None)), ("many 13 1", "0"), ("leave", "ok"), ("tree x", (NoLine, None)), ("ask", "yes"), ("tree y", "leaf"),
                   ("leave", (NoLevel, None)), ("back", "ok"), ("back", "ok"),
                   ("sheet", TREES[6:] + " / name x tree / name y tree 5 / name m mark / put same x node y y / put test node y"))

    def test_kinds_with_many_rows(self):
        desk = self.check((KINDS, "ok"), ("name l list 9", "ok"), ("name i item", "ok"), ("put not same i part cons 0 l", "ok"), ("put test cons l", "ok"), ("ask", "yes"))
        sheet = read_sheet(desk.say("sheet").replace(" / ", "\n"))
        answer = {name: read_term(sheet, desk.say("tree " + name)) for name in "li"}
        self.assertIsNone(first_false(sheet, answer))

    def test_ahead_of_kinds(self):
        for row in NO_ROWS + NO_KINDS + ("name x tree", "put test leaf x", "put", "put ", "level", "leave", "back", "ask", "tree x", "follows test leaf x",
                                         "follows ", "core", "least", "many 5 1", "many 41 1", "sheet") + NEVER:
            desk = Desk()
            self.assertEqual(say(desk, row), (NoLine, None), row)
            self.assertEqual(len(desk), 1)
            self.assertEqual(say(desk, "sheet"), (NoLine, None))
            self.assertEqual((say(desk, TREES), say(desk, "sheet"), len(desk)), ("ok", TREES[6:], 4))

    def test_no_rows(self):
        desk = desk_of(TREES, "name x tree", "put test leaf x", "ask")
        sheet = desk.say("sheet")
        for row in NO_ROWS + NO_KINDS + tuple(thing for thing in NEVER if thing != "") + (3, ("ask",), ["ask"], {"ask": 1}):
            many = len(desk)
            self.assertEqual(say(desk, row), (NoLine, None), row)
            self.assertEqual(len(desk), many + 1)
            self.assertEqual(desk.say("sheet"), sheet)
            self.assertEqual(desk.say("tree x"), "leaf")

    def test_names(self):
        desk = desk_of(TREES)
        for row in ("name x other", "name tree tree", "name leaf tree", "name x tree 41", "name x leaf", "name x tree 9999999999"):
            self.assertEqual(say(desk, row), (NoNames, None), row)
        for name in "abcdef":
            self.assertEqual(desk.say("name %s tree 40" % name), "ok")
        self.assertEqual(say(desk, "name g tree"), (NoNames, None))
        self.assertEqual(say(desk, "name g other"), (NoNames, None))
        self.assertEqual(say(desk, "name G tree"), (NoLine, None))

    def test_formulas(self):
        desk = desk_of(TREES, "name x tree")
        bad = ("", " ", "x", "leaf", "same x", "same x y", "same x 3", "test leaf  x", "test leaf x ", " test leaf x", "test leaf x y", "test leaf x\n",
               "sum 1 1 x 3", "sum 0 00", "not " * 3000 + "same x x", "put test leaf x", "sum 0 501")
        for text in bad:
            self.assertEqual(say(desk, "put " + text), (NoFormula, 0), text)
            self.assertEqual(say(desk, "follows " + text), (NoFormula, 0), text)
        for _ in range(10):
            self.assertEqual(desk.say("put test leaf x"), "ok")
        self.assertEqual(say(desk, "put test leaf x"), (NoFormula, -1))
        self.assertEqual(say(desk, "put test node x"), (NoFormula, -1))
        self.assertEqual(desk.say("follows same x leaf"), "yes")
        for text in bad:
            self.assertEqual(say(desk, "put " + text), (NoFormula, 0), text)

    def test_tree_by_the_last_ask(self):
        desk = desk_of(TREES, "name x tree", "put test node x")
        self.assertEqual(say(desk, "tree x"), (NoLine, None))
        self.assertEqual((desk.say("ask"), desk.say("tree x")), ("yes", "node leaf leaf"))
        for change in ("name y tree", "put test node x", "name y tree 3"):
            desk.say(change)
            self.assertEqual(say(desk, "tree x"), (NoLine, None), change)
            # Of a sheet that is the same again.
            desk.say("back")
            self.assertEqual(desk.say("tree x"), "node leaf leaf")
        desk.say("level")
        self.assertEqual(desk.say("tree x"), "node leaf leaf")
        # Other rows that ask are no ask.
        for row in ("least", "follows test leaf x", "many 3 1", "sheet"):
            desk.say(row)
            self.assertEqual(desk.say("tree x"), "node leaf leaf")
        desk.say("put test leaf x")
        self.assertEqual((desk.say("ask"), say(desk, "tree x")), ("no", (NoLine, None)))
        desk.say("leave")
        self.assertEqual(say(desk, "tree x"), (NoLine, None))
        self.assertEqual((desk.say("ask"), desk.say("tree x")), ("yes", "node leaf leaf"))
        # A kinds row begins anew, even of the same kinds.
        desk.say(TREES)
        self.assertEqual(say(desk, "tree x"), (NoLine, None))
        desk.many(["name x tree", "put test node x"])
        self.assertEqual(say(desk, "tree x"), (NoLine, None))

    def test_a_refused_ask_is_none(self):
        desk = desk_of(CHAINS, "name x chain 40", "name y chain 40", "ask", "level", "put both same x x not same x y")
        self.assertEqual(say(desk, "ask"), (TooWide, None))
        self.assertEqual(say(desk, "tree x"), (NoLine, None))
        self.assertEqual(say(desk, "core"), (TooWide, None))
        self.assertEqual(say(desk, "follows same x x"), (TooWide, None))
        self.assertEqual(say(desk, "least"), (TooWide, None))
        desk.say("leave")
        self.assertEqual(desk.say("tree x"), "end")

    def test_cores(self):
        desk = desk_of(TREES, "name x tree 0")
        self.assertEqual(desk.say("core"), "-")
        self.assertEqual(desk.say("least"), "none")
        desk = desk_of(TREES, "name x tree", "put sum 0 3", "put sum 0 -1")
        self.assertEqual(desk.say("core"), "1")

    def test_numbers(self):
        desk = desk_of(TREES, "name m mark")
        for row, wanted in (("many 1 5000", "5000"), ("many 1 5001", (TooMany, None)), ("many 0 5001", "0"), ("many 41 1", (NoNumber, 41)), ("many 1 1000001", (NoNumber, 1000001)),
                            ("many 41 1000001", (NoNumber, 41)), ("many 9999999999 1", (NoNumber, 9999999999)), ("many 40 0", "0")):
            self.assertEqual(say(desk, row), wanted, row)

    def test_random_sheets(self):
        chance = random.Random(121)
        asked = 0
        for _ in range(150):
            sheet = random_sheet(chance, None, 3, 4)
            rows = sheet_text(sheet).split("\n")
            own = [row for row in rows if row.startswith("kind ")]
            desk = desk_of("kinds " + " / ".join(own), *rows[len(own):])
            self.assertEqual(desk.say("sheet"), " / ".join(rows))
            if width_of(sheet) <= 2000:
                asked += 1
                told = decide(sheet)
                self.assertEqual(desk.say("ask"), told[0])
                self.assertEqual(desk.say("core") if told[0] == "no" else "", " ".join(str(at) for at in core(sheet)[0]) or "-" if told[0] == "no" else "")
                self.assertEqual(say(desk, "many 4 2"), str(many_answers(sheet, 4, marks=2)))
        self.assertGreater(asked, 100)


class ManyTest(unittest.TestCase):

    def test_rows(self):
        for rows in ([], (), [TREES], (TREES, "name x tree", "ask", "tree x"), [TREES, TREES, "sheet"]):
            desk = Desk()
            self.assertEqual(desk.many(rows), len(rows))
            self.assertEqual(len(desk), len(rows))

    def test_up_to_the_first_refused(self):
        for bad, error in (("jump", NoLine), (None, NoLine), (3, NoLine), ("put ", NoFormula), ("name x tree", NoNames), ("leave", NoLevel)):
            desk = Desk()
            rows = [TREES, "name x tree", bad, "put test leaf x"]
            kept = list(rows)
            self.assertIs(type(refusal(desk.many, rows)), error)
            self.assertEqual(rows, kept)
            self.assertEqual(len(desk), 3)
            self.assertEqual(desk.say("sheet"), TREES[6:] + " / name x tree")

    def test_no_rows(self):
        desk = Desk()
        for thing in ("ask", TREES, None, 3, True, {TREES: 1}, {}):
            self.assertIs(type(refusal(desk.many, thing)), NoLine, thing)
        self.assertEqual(len(desk), 0)

    def test_names_and_arguments(self):
        self.assertEqual(Desk.__module__, "madesure.words.desk")
        self.assertEqual(str(inspect.signature(Desk)), "()")
        for name, arguments in (("say", "(self, row)"), ("many", "(self, rows)")):
            self.assertEqual(str(inspect.signature(vars(Desk)[name])), arguments)
        self.assertIn("__len__", vars(Desk))
        self.assertTrue(module.__doc__)
        self.assertEqual((answer_at.__module__, least.__module__), ("madesure.ask.answers",) * 2)


if __name__ == "__main__":
    unittest.main()
