import inspect
import random
import unittest

from madesure.errors import NoFormula, NoSheet, NoTerm, NoText
from madesure.terms.terms import is_formula, is_sheet, is_term
from madesure.words import texts as module
from madesure.words.texts import formula_text, read_formula, read_sheet, read_term, sheet_text, term_text
from samples import (ALL_KINDS, BAD_SHEETS, BINARY, CHAIN, LEAF, LISTS, NEVER, SHEET, chain_on, check_refusals, check_sheets_refused,
                     doubled, plain_kind, random_formula, random_sheet, random_term, refusal)

LIST_TEXT = "kind list cons item list , nil\nkind item count mark , pair item item , sub list"
TERMS = (("x", "x"), (0, "0"), (7, "7"), (10 ** 39, "1" + "0" * 39), (LEAF, "leaf"), (("node", "x", LEAF), "node x leaf"),
         (("part", "node", 0, "x"), "part node 0 x"), (("part", "node", 1, ("node", ("part", "node", 0, "z"), "x")), "part node 1 node part node 0 z x"),
         (("node", ("node", LEAF, "x"), ("node", "y", "z")), "node node leaf x node y z"), ("m", "m"))
FORMULAS = ((("same", "x", "y"), "same x y"), (("same", "m", 3), "same m 3"), (("test", "leaf", "x"), "test leaf x"), (("sum", (), 0), "sum 0 0"),
            (("sum", (), -500), "sum 0 -500"),
            (("sum", tuple((1, ("node", "x", at)) for at in ("x", "z", LEAF)) + ((1, "x"), (2, "z"), (-3, LEAF)), 5),
             "sum 6 1 node x x 1 node x z 1 node x leaf 1 x 2 z -3 leaf 5"), (("sum", ((3, "x"), (-1, "z")), 7), "sum 2 3 x -1 z 7"),
            (("sum", ((9, ("node", "x", "z")), (-9, 4)), -1), "sum 2 9 node x z -9 4 -1"), (("not", ("same", "x", "y")), "not same x y"),
            (("both", ("test", "node", "x"), ("sum", ((1, "z"),), 0)), "both test node x sum 1 1 z 0"),
            (("either", ("not", ("not", ("same", 1, 2))), ("both", ("same", "x", LEAF), ("test", "leaf", ("part", "node", 1, "y")))),
             "either not not same 1 2 both same x leaf test leaf part node 1 y"))
# Texts that write neither a term nor a formula.
NO_TEXTS = ("", " ", "  ", "\n", "X", "q", "tree", "mark", "part", "node", "node x", "node x leaf leaf", "node  x leaf", " node x leaf", "node x leaf ",
            "node x\nleaf", "node,x,leaf", "(node x leaf)", "node x 3", "node m x", "leaf x", "x y", "x x", "00", "01", "-0", "-1", "+1", "1.0", "1 ",
            "--1", "0x1", "1e3", "1_000", "x1", "part node", "part node 0", "part node 2 x", "part node -1 x", "part node 00 x", "part leaf 0 x",
            "part node 0 3", "part node x x", "part x 0 x", "part node 0 x x", "part 0 node x", "nodex leaf", "node x leafy", "Node x leaf", "leaf.",
            "same", "same x", "same x y z", "same x 3", "same same x y", "test leaf", "test x leaf", "test tree x", "test leaf 3", "test node x y",
            "sum", "sum 0", "sum 1 3 x", "sum 1 3 x 7 7", "sum 2 3 x 7", "sum 1 x 3 7", "sum 1 0 x 7", "sum 1 10 x 7", "sum 1 3 x 501", "sum 1 3 x -501",
            "sum 1 3 y 7", "sum 2 1 x 1 x 7", "sum -1 7", "sum 00 7", "sum 0 07", "sum 0 -0", "sum 0 x", "sum x 3", "sum 7 1 x 1 x 1 x 1 x 1 x 1 x 1 x 7",
            "not", "not x", "not not", "not same x y x", "both same x y", "both", "either same x y x", "given 0", "not same x y\n", "\tx", "x\r")


class WrittenTest(unittest.TestCase):

    def test_terms_and_formulas(self):
        for term, text in TERMS:
            self.assertEqual(term_text(SHEET, term), text)
            self.assertEqual(read_term(SHEET, text), term)
        for formula, text in FORMULAS:
            self.assertEqual(formula_text(SHEET, formula), text)
            self.assertEqual(read_formula(SHEET, text), formula)

    def test_sheets(self):
        for sheet, text in (
                ((BINARY, (), ()), "kind tree node tree tree , leaf"), ((LISTS, (), ()), LIST_TEXT),
                ((BINARY, (("x", "tree", None), ("m", "mark", 0), ("y", "tree", 40)), ()),
                 "kind tree node tree tree , leaf\nname x tree\nname m mark 0\nname y tree 40"),
                ((LISTS, (("l", "list", 7),), (("test", "nil", "l"), ("sum", ((1, "l"),), 3))), LIST_TEXT + "\nname l list 7\nput test nil l\nput sum 1 1 l 3"),
                ((BINARY, (), (("same", 0, 0),)), "kind tree node tree tree , leaf\nput same 0 0")):
            self.assertEqual(sheet_text(sheet), text)
            self.assertEqual(read_sheet(text), sheet)
        self.assertEqual(read_sheet(sheet_text(SHEET)), SHEET)

    def test_random(self):
        chance = random.Random(111)
        for _ in range(400):
            sheet = random_sheet(chance, chance.choice(ALL_KINDS + (None,)), 6, 8)
            self.assertEqual(read_sheet(sheet_text(sheet)), sheet)
            for formula in sheet[2]:
                self.assertEqual(read_formula(sheet, formula_text(sheet, formula)), formula)
            for kind in [kind for kind, _ in sheet[0]] + ["mark"]:
                term = random_term(chance, sheet, kind, 3)
                if term is not None:
                    self.assertEqual(read_term(sheet, term_text(sheet, term)), term)

    def test_deep_terms(self):
        sheet = (CHAIN, (("x", "chain", None),), ())
        for depth in (199, 200):
            self.assertEqual(read_term(sheet, "next " * depth + "x"), chain_on("x", depth))
            self.assertEqual(read_term(sheet, "next " * (depth - 1) + "end"), chain_on(("end",), depth - 1))
        for depth in (201, 210, 790):
            self.assertIs(type(refusal(read_term, sheet, "next " * depth + "x")), NoText)
            self.assertIs(type(refusal(read_term, sheet, "next " * (depth - 1) + "end")), NoText)
        # It is written, however deep.
        self.assertEqual(term_text(sheet, chain_on("x", 900)), "next " * 900 + "x")
        for text in ("next " * 5000, "next " * 5000 + "x", "part next 0 " * 3000 + "x", "not " * 5000 + "same x x", "both " * 5000):
            self.assertIs(type(refusal(read_term, sheet, text)), NoText)
            self.assertIs(type(refusal(read_formula, sheet, text)), NoText)
            self.assertIs(type(refusal(read_sheet, sheet_text(sheet) + "\nput " + text)), NoText)

    def test_formulas_as_deep_and_as_long_as_may_be(self):
        sheet = (CHAIN, (("x", "chain", None),), ())
        self.assertEqual(read_formula(sheet, "not " * 11 + "same x x"), read_formula(sheet, "not " * 11 + "same x x"))
        self.assertTrue(is_formula(sheet, read_formula(sheet, "same x " + "next " * 11 + "x")))
        for text in ("not " * 12 + "same x x", "same x " + "next " * 12 + "x", "not " * 12 + "same x end"):
            self.assertIs(type(refusal(read_formula, sheet, text)), NoText)
        tree = (BINARY, (("x", "tree", None),), ())
        long = ("both", ("same", "x", doubled("x", 8)), ("same", doubled("x", 7), doubled("x", 6)))
        self.assertTrue(is_formula(tree, long))
        self.assertEqual(read_formula(tree, formula_text(tree, long)), long)
        longer = "both same x x " + formula_text(tree, long).replace("both", "both", 1)
        self.assertEqual(read_formula(tree, longer)[2], long)
        self.assertIs(type(refusal(read_formula, tree, "both " + formula_text(tree, long) + " same " + term_text(tree, doubled("x", 7)) + " x")), NoText)


class ReadTest(unittest.TestCase):

    def test_no_texts(self):
        for text in NO_TEXTS:
            self.assertIs(type(refusal(read_term, SHEET, text)), NoText, text)
            self.assertIs(type(refusal(read_formula, SHEET, text)), NoText, text)
        for _, text in FORMULAS:
            self.assertIs(type(refusal(read_term, SHEET, text)), NoText, text)
        for _, text in TERMS:
            self.assertIs(type(refusal(read_formula, SHEET, text)), NoText, text)

    def test_bent_texts(self):
        """Whatever is read is written so again, to the sign."""
        chance = random.Random(112)
        for read, write, rows in ((read_term, term_text, TERMS), (read_formula, formula_text, FORMULAS)):
            for _, text in rows:
                for at in range(len(text) + 1):
                    for sign in ("", " ", "0", "-", "x", "\n", ",", "1", "+", "X"):
                        for bent in (text[:at] + sign + text[at:], text[:at] + sign + text[at + 1:]):
                            if bent != text:
                                try:
                                    told = read(SHEET, bent)
                                except NoText:
                                    continue
                                self.assertEqual(write(SHEET, told), bent)
        text = sheet_text(SHEET)
        read = 0
        for _ in range(6000):
            at = chance.randrange(len(text))
            bent = text[:at] + chance.choice(("", " ", "0", "-", "x", "\n", ",", "1", "kind", "put ")) + text[at + chance.randint(0, 1):]
            try:
                told = read_sheet(bent)
            except NoText:
                continue
            read += 1
            self.assertTrue(is_sheet(told))
            self.assertEqual(sheet_text(told), bent)
        self.assertGreater(read, 50)

    def test_no_sheets(self):
        kind, names, put = "kind tree node tree tree , leaf", "name x tree 7", "put test leaf x"
        self.assertTrue(is_sheet(read_sheet("\n".join((kind, names, put)))))
        for rows in ((), ("",), (names,), (put,), (kind, put), (names, kind, put), (kind, put, names), (put, kind, names), (kind, "", names), (kind, names, put, ""),
                     (" " + kind,), (kind + " ",), (kind, kind), (kind, names, names), (kind, names + " ", put), (kind, "name x tree  7"), (kind, "name x tree 07"),
                     (kind, "name x tree -1"), (kind, "name x tree 41"), (kind, "name x tree 7 7"), (kind, "name x tree -0"), (kind, "name x tree none"),
                     (kind, "name x"), (kind, "name"), (kind, "name "), (kind, "name x other"), (kind, "name X tree"), (kind, "name leaf tree"),
                     (kind, names, "put"), (kind, names, "put "), (kind, names, "test leaf x"), (kind, names, "Put test leaf x"), (kind, names, "put  test leaf x"),
                     (kind, names, "put test leaf y"), (kind, names) + (put,) * 11, (kind,) + tuple("name %s tree" % name for name in "abcdefg"),
                     ("kind tree",), ("kind",), ("kind ",), ("kind tree ,",), ("kind tree , leaf",), ("kind tree leaf ,",), ("kind tree leaf , , node",),
                     ("kind tree leaf, node",), ("kind tree node tree tree",), ("kind mark leaf",), ("kind tree tree",), ("kind tree leaf , leaf",),
                     ("kind tree leaf other",), ("kind tree a , b , c , d , e",), ("kind tree a mark mark mark mark",), ("kinds tree leaf",),
                     tuple("kind k%s m%s" % (2 * (sign,)) for sign in "abcdef"), ("kind tree leaf / name x tree",), ("kind tree leaf\r", names)):
            self.assertIs(type(refusal(read_sheet, "\n".join(rows))), NoText, rows)
        self.assertEqual(len(read_sheet("\n".join((kind, names) + (put,) * 10))[2]), 10)
        self.assertEqual(len(read_sheet("\n".join((kind,) + tuple("name %s tree" % name for name in "abcdef")))[1]), 6)

    def test_no_texts_of_anything(self):
        for thing in NEVER + (3, ("x",), ["x"], LEAF, {"x": 1}, 10 ** 39):
            if thing != "":
                self.assertIs(type(refusal(read_sheet, thing)), NoText, thing)
                self.assertIs(type(refusal(read_term, SHEET, thing)), NoText, thing)
                self.assertIs(type(refusal(read_formula, SHEET, thing)), NoText, thing)

    def test_figures(self):
        sheet = (BINARY, (("m", "mark", None),), ())
        self.assertEqual(read_term(sheet, "9" * 40), 10 ** 40 - 1)
        self.assertEqual(read_term(sheet, "9" * 4000), 10 ** 4000 - 1)
        self.assertIs(type(refusal(read_term, sheet, "9" * 20000)), NoText)
        self.assertIs(type(refusal(read_term, sheet, "0" * 40)), NoText)


class RefusalsTest(unittest.TestCase):

    def test_refusals(self):
        check_sheets_refused(self, sheet_text, ())
        for function in (term_text, formula_text, read_term, read_formula):
            check_sheets_refused(self, function, ("x",), (None,), ([],))
        terms = tuple((thing, NoTerm) for thing in NEVER + ("q", ("node", "x"), ["leaf"], ("same", "x", "x"), ("leaf", "x")))
        formulas = tuple((thing, NoFormula) for thing in NEVER + ("x", LEAF, ["same", "x", "x"], ("same", "x", 3), ("sum", ((1, "y"),), 0)))
        check_refusals(self, term_text, (SHEET, "x"), ((), terms))
        check_refusals(self, formula_text, (SHEET, ("same", "x", "x")), ((), formulas))
        for thing, _ in formulas:
            self.assertEqual(refusal(formula_text, SHEET, thing).number, 0)
        # Other formulas of the sheet have a number of their own.
        bent = (*SHEET[:2], SHEET[2][:2] + (("same", "x", "m"),))
        self.assertEqual(refusal(formula_text, bent, None).number, 2)
        for thing, error, _ in BAD_SHEETS:
            self.assertIs(type(refusal(sheet_text, thing)), error)
        self.assertIs(type(refusal(read_term, None, None)), NoSheet)


class InterfaceTest(unittest.TestCase):

    def test_names_and_arguments(self):
        for name, arguments in (("term_text", "(sheet, term)"), ("formula_text", "(sheet, formula)"), ("sheet_text", "(sheet)"),
                                ("read_term", "(sheet, text)"), ("read_formula", "(sheet, text)"), ("read_sheet", "(text)")):
            function = getattr(module, name)
            self.assertEqual(function.__module__, "madesure.words.texts")
            self.assertEqual(str(inspect.signature(function)), arguments)


if __name__ == "__main__":
    unittest.main()
