"""Stage 13: an asker, whose sheet grows and is taken back by deeds."""

from madesure.ask.follow import follows
from madesure.decide.search import WIDTH, decide, shows
from madesure.errors import NoDeed, NoFormula, NoLevel, NoNames
from madesure.kinds.kinds import check_kinds
from madesure.terms.terms import MOST_FORMULAS, are_names, is_formula

# How many things each deed has, its word among them.
LENGTHS = {"name": 4, "formula": 2, "level": 1, "leave": 1, "all": 2, "back": 1}
# The deeds that may stand in a row of them.
PLAIN = ("name", "formula", "level", "leave")
ALL = "all"
BACK = "back"
# The word of what is no deed, in the log.
NONE = "none"
DONE = "done"
REFUSED = "refused"


class Asker:
    """A sheet of kinds, its names and formulas put and taken back by deeds.

    names, formulas and begun are what stands, begun the (names, formulas) that stood as each level
    was begun. past has for each deed that stands the (names, formulas, begun) ahead of it.
    """

    def __init__(self, kinds, *, most=WIDTH):
        check_kinds(kinds)
        self.kinds = kinds
        self.most = most
        self.names = ()
        self.formulas = ()
        self.begun = ()
        self.past = []
        self.told = None
        self.many_decided = 0
        self.entries = []
        self.is_within_deed = False

    def name(self, name, kind, *, most=None):
        """Put a name last."""
        self.do(("name", name, kind, most))

    def formula(self, formula):
        """Put a formula last."""
        self.do(("formula", formula))

    def level(self):
        """Begin a level."""
        self.do(("level",))

    def leave(self):
        """Leave the level begun last: all that came since is gone."""
        self.do(("leave",))

    def back(self):
        """Take back the last deed that stands."""
        self.do((BACK,))

    def all_of(self, deeds):
        """Do deeds one by one, all or none."""
        self.do((ALL, deeds))

    def do(self, deed):
        """Do a deed; where it is refused nothing is changed."""
        names, formulas, begun = self.names, self.formulas, self.begun
        ending = None
        self.is_within_deed = True
        try:
            self._run(deed, tuple(LENGTHS))
            ending = DONE
        finally:
            self.is_within_deed = False
            if ending is None:
                self.names, self.formulas, self.begun = names, formulas, begun
        if deed[0] != BACK:
            self.past.append((names, formulas, begun))

    def ask(self):
        """Tell ("yes", answer) of one that fits the sheet that stands, or ("no", paper)."""
        sheet = self.sheet()
        if self.told is None or not shows(sheet, self.told):
            self.told = decide(sheet, most=self.most)
            self.many_decided += 1
        word, told = self.told
        # A dict that is told may be changed: the one that is kept may not.
        return (word, dict(told)) if word == "yes" else self.told

    def follows(self, formula):
        """Tell whether a formula follows from the sheet that stands."""
        return follows(self.sheet(), formula, most=self.most)

    def sheet(self):
        """Tell the sheet that stands."""
        return self.kinds, self.names, self.formulas

    def levels(self):
        """Tell how many levels are begun."""
        return len(self.begun)

    def decided(self):
        """Tell how many asks were decided anew."""
        return self.many_decided

    def log(self):
        """Tell for each deed called (word, "in") and (word, "done") or (word, "refused")."""
        return tuple(self.entries)

    def is_busy(self):
        """Tell whether a deed is being done."""
        return self.is_within_deed

    def __eq__(self, other):
        if not isinstance(other, Asker):
            return NotImplemented
        return self.kinds == other.kinds and self.names == other.names and self.formulas == other.formulas

    def __len__(self):
        return len(self.formulas)

    def __repr__(self):
        return f"Asker({len(self.names)} names, {len(self.formulas)} formulas)"

    def _run(self, deed, words):
        """Do a deed whose word is one of these, and keep in the log how it went."""
        word = deed[0] if _is_deed(deed, words) else NONE
        ending = REFUSED
        self.entries.append((word, "in"))
        try:
            self._run_by_word(word, deed)
            ending = DONE
        finally:
            self.entries.append((word, ending))

    def _run_by_word(self, word, deed):
        if word == NONE:
            raise NoDeed("this is no deed there")
        if word == "name":
            self._put_name(deed[1:])
        elif word == "formula":
            self._put_formula(deed[1])
        elif word == "level":
            self.begun = self.begun + ((self.names, self.formulas),)
        elif word == "leave":
            self._leave_level()
        elif word == BACK:
            self._take_back()
        else:
            self._run_all(deed[1])

    def _put_name(self, row):
        if not are_names(self.kinds, self.names + (row,)):
            raise NoNames("the names with this one are none")
        self.names = self.names + (row,)

    def _put_formula(self, formula):
        if not is_formula(self.sheet(), formula):
            raise NoFormula(0)
        if len(self.formulas) == MOST_FORMULAS:
            raise NoFormula(-1)
        self.formulas = self.formulas + (formula,)

    def _leave_level(self):
        if not self.begun:
            raise NoLevel("no level is begun")
        self.names, self.formulas = self.begun[-1]
        self.begun = self.begun[:-1]

    def _take_back(self):
        if not self.past:
            raise NoLevel("nothing is there to take back")
        self.names, self.formulas, self.begun = self.past.pop()

    def _run_all(self, deeds):
        if not isinstance(deeds, tuple):
            raise NoDeed("this is no row of deeds")
        for deed in deeds:
            self._run(deed, PLAIN)


def _is_deed(thing, words):
    """Tell whether a thing is a deed by its word, one of these, and its length."""
    if not isinstance(thing, tuple) or not thing or not isinstance(thing[0], str):
        return False
    return thing[0] in words and len(thing) == LENGTHS[thing[0]]
