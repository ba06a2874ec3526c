"""Stage 14: a desk, which is told rows of text and tells texts."""

from madesure.ask.answers import least, many_answers
from madesure.ask.cores import core
from madesure.errors import NoFormula, NoLine, NoText
from madesure.keep.asker import Asker
from madesure.kinds.kinds import MARK, is_name
from madesure.terms.terms import ground_of
from madesure.trees.trees import nodes_of
from madesure.words.reading import formula_in, kinds_in, number_in
from madesure.words.writing import sheet_rows, written_text

MOST_FIGURES = 10
BETWEEN = " / "


class Desk:
    """An asker, none at first, and what was asked of it last: the (sheet, told) of that ask."""

    def __init__(self):
        self.asker = None
        self.asked = None
        self.rows_told = []

    def say(self, row):
        """Do what a row asks for, and tell a text."""
        # The row itself is not kept: it may be anything.
        self.rows_told.append(None)
        if not isinstance(row, str):
            raise NoLine("this is no text")
        word, blank, rest = row.partition(" ")
        if word == "kinds" and blank:
            return self._kinds(rest)
        if self.asker is None or word not in ROWS or bool(blank) != (word in WITH_MORE):
            raise NoLine("this is no row")
        told = ROWS[word]
        return told(self, rest)

    def many(self, rows):
        """Do what rows ask for, up to one that is refused; tell how many they are."""
        if not isinstance(rows, (list, tuple)):
            raise NoLine("these are no rows")
        for row in list(rows):
            self.say(row)
        return len(rows)

    def __len__(self):
        return len(self.rows_told)

    def _kinds(self, rest):
        try:
            kinds = kinds_in(rest.split(BETWEEN))
        except NoText:
            raise NoLine("these rows write no kinds") from None
        self.asker = Asker(kinds)
        self.asked = None
        return "ok"


def _name(desk, rest):
    words = rest.split(" ")
    if len(words) not in (2, 3) or not is_name(words[0]) or not (words[1] == MARK or is_name(words[1])):
        raise NoLine("this is no name with its kind")
    most = _number(words[2]) if len(words) == 3 else None
    desk.asker.name(words[0], words[1], most=most)
    return "ok"


def _put(desk, rest):
    desk.asker.formula(_formula(desk, rest))
    return "ok"


def _level(desk, rest):
    desk.asker.level()
    return "ok"


def _leave(desk, rest):
    desk.asker.leave()
    return "ok"


def _back(desk, rest):
    desk.asker.back()
    return "ok"


def _ask(desk, rest):
    told = desk.asker.ask()
    desk.asked = (desk.asker.sheet(), told)
    return told[0]


def _tree(desk, rest):
    if desk.asked is None or desk.asked[0] != desk.asker.sheet():
        raise NoLine("this sheet was not asked last")
    word, told = desk.asked[1]
    if word == "no" or rest not in told:
        raise NoLine("the last ask told no such tree")
    return written_text(told[rest])


def _follows(desk, rest):
    return desk.asker.follows(_formula(desk, rest))[0]


def _core(desk, rest):
    numbers, _, _ = core(desk.asker.sheet())
    return " ".join([str(number) for number in numbers]) if numbers else "-"


def _least(desk, rest):
    told = least(desk.asker.sheet())
    if told[0] == "no":
        return "none"
    return str(sum([len(nodes_of(tree)) for tree in told[1].values()]))


def _many(desk, rest):
    words = rest.split(" ")
    if len(words) != 2:
        raise NoLine("these are no two numbers")
    return str(many_answers(desk.asker.sheet(), _number(words[0]), marks=_number(words[1])))


def _sheet(desk, rest):
    return BETWEEN.join(sheet_rows(desk.asker.sheet()))


def _number(word):
    """Read a number from 0 on, of ten figures at most."""
    number = number_in(word)
    if number is None or number < 0 or len(word) > MOST_FIGURES:
        raise NoLine("this is no such number")
    return number


def _formula(desk, rest):
    """Read a formula of the sheet that stands."""
    try:
        return formula_in(ground_of(desk.asker.sheet()), rest)
    except NoText:
        raise NoFormula(0) from None


ROWS = {"name": _name, "put": _put, "level": _level, "leave": _leave, "back": _back, "ask": _ask, "tree": _tree,
        "follows": _follows, "core": _core, "least": _least, "many": _many, "sheet": _sheet}
# The words of the rows that have more behind them.
WITH_MORE = ("name", "put", "tree", "follows", "many")
