"""Terms, formulas and kinds read of words: what is not written just so is refused."""

from madesure.errors import NoText
from madesure.kinds.kinds import is_kinds
from madesure.terms.formulas import MOST_ROWS, SUM, is_formula_on
from madesure.terms.ground import PART
from madesure.terms.nested import is_within

# What may be wanted next of a text.
TERM = "term"
FORMULA = "formula"
MAKER = "maker"
NUMBER = "number"
MANY = "many"
# What is wanted behind the words that begin a formula.
BEHIND = {"same": ("term", "term"), "test": ("maker", "term"), "sum": ("many",), "not": ("formula",),
          "both": ("formula", "formula"), "either": ("formula", "formula")}
# How many tuples within one another a term may have that is read.
MOST_DEPTH = 200
MOST_FIGURES = 4000


def number_in(word):
    """Tell the number that a word writes, None where it writes none."""
    figures = word[1:] if word.startswith("-") else word
    if not 1 <= len(figures) <= MOST_FIGURES or not all(["0" <= sign <= "9" for sign in figures]):
        return None
    if figures.startswith("0") and word != "0":
        return None
    return int(word)


def term_in(ground, text):
    """Read a term."""
    term = _read(ground, text, TERM)
    if not is_within(term, len(text), MOST_DEPTH) or ground.kind_of(term) is None:
        raise NoText("this writes no term")
    return term


def formula_in(ground, text):
    """Read a formula."""
    formula = _read(ground, text, FORMULA)
    if not is_formula_on(ground, formula):
        raise NoText("this writes no formula")
    return formula


def kinds_in(rows):
    """Read kinds of their rows."""
    kinds = tuple([_kind_in(row.split(" ")) for row in rows])
    if not is_kinds(kinds):
        raise NoText("this writes no kinds")
    return kinds


def _kind_in(words):
    """Read a kind: its word, its name, and its makers, a comma between."""
    if len(words) < 3 or words[0] != "kind":
        raise NoText("this writes no kind")
    makers = [[]]
    for word in words[2:]:
        if word == ",":
            makers.append([])
        else:
            makers[-1].append(word)
    if [] in makers:
        raise NoText("there is no maker between two commas")
    return words[1], tuple([(made[0], tuple(made[1:])) for made in makers])


def _read(ground, text, want):
    """Read the one thing that a text writes."""
    if not isinstance(text, str):
        raise NoText("this is no text")
    reading = Reading(ground, want)
    for word in text.split(" "):
        reading.take(word)
    return reading.whole()


class Reading:
    """A thing read word by word.

    frames has for each thing that is begun the things read in it so far, and what is wanted next, the
    nearest last. The first one is for what is read itself.
    """

    def __init__(self, ground, want):
        self.ground = ground
        self.frames = [([], [want])]

    def take(self, word):
        """Read one word more."""
        things, wants = self.frames[-1]
        if not wants:
            raise NoText("there are words too many")
        want = wants.pop()
        if want == TERM:
            self._begin(things, word, self._behind_term(word))
        elif want == FORMULA:
            self._begin(things, word, BEHIND.get(word))
        elif want == MAKER:
            things.append(word)
        else:
            number = self._number(word, want)
            things.append(number)
            if want == MANY:
                wants.extend([NUMBER] + [TERM, NUMBER] * number)
        while len(self.frames) > 1 and not self.frames[-1][1]:
            own, _ = self.frames.pop()
            self.frames[-1][0].append(_put_together(own))

    def whole(self):
        """Tell what is read, all words being read."""
        things, wants = self.frames[-1]
        if wants or len(things) != 1:
            raise NoText("there are words too few")
        return things[0]

    def _begin(self, things, word, wants):
        """Begin a thing behind whose word this is wanted; without a row of wants the word stands by itself."""
        if wants is not None:
            self.frames.append(([word], list(wants[::-1])))
        elif word in self.ground.names:
            things.append(word)
        else:
            things.append(self._number(word, None))

    def _behind_term(self, word):
        """Tell what is wanted behind the word that begins a term, None of one that is a term by itself."""
        if word == PART:
            return MAKER, NUMBER, TERM
        if word in self.ground.makers:
            return (TERM,) * len(self.ground.makers[word][2])
        return None

    def _number(self, word, want):
        """Read a number; of how many there are in a sum no more than there may be."""
        number = number_in(word)
        if number is None or want == MANY and not 0 <= number <= MOST_ROWS:
            raise NoText("this is no such number")
        return number


def _put_together(things):
    """Make a term or a formula of its word and the things in it."""
    if things[0] != SUM:
        return tuple(things)
    return SUM, tuple(zip(things[2:-1:2], things[3:-1:2])), things[-1]
