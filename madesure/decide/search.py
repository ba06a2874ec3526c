"""Stage 9: sheets decided: an answer that fits, or a paper that shows that none does."""

from madesure.decide.closure import Closure
from madesure.decide.filling import Stock
from madesure.decide.proofs import Proof, Shut, paper_of, shut_by, shut_by_cases
from madesure.decide.states import State
from madesure.decide.table import TermTable
from madesure.errors import TooWide
from madesure.papers.papers import shows_no
from madesure.terms.formulas import BOTH, EITHER, NOT, SAME, SUM, TEST
from madesure.terms.ground import PART, terms_in
from madesure.terms.meaning import fits_on
from madesure.terms.terms import ground_of

WIDTH = 2000


def width_of(sheet):
    """Tell the width of a sheet."""
    return width_on(ground_of(sheet), sheet[2])


def decide(sheet, *, most=WIDTH):
    """Tell ("yes", answer) of one that fits a sheet, or ("no", paper)."""
    ground = ground_of(sheet)
    check_width(ground, sheet[2], most)
    return decided(ground, sheet[2])


def shows(sheet, thing):
    """Tell whether a thing is yes with an answer that fits a sheet, or no with a paper that is shut."""
    ground = ground_of(sheet)
    if not isinstance(thing, tuple) or len(thing) != 2:
        return False
    if thing[0] == "yes":
        return fits_on(ground, sheet[2], thing[1])
    return thing[0] == "no" and shows_no(sheet, thing[1])


def check_width(ground, formulas, most):
    """Refuse what is wider than most."""
    if width_on(ground, formulas) > most:
        raise TooWide("the sheet is too wide")


def width_on(ground, formulas):
    """Tell the width of formulas with their ground."""
    width = 1
    for _, most in ground.names.values():
        if most is not None:
            width = width * max(1, most)
    waiting = list(formulas)
    while waiting:
        formula = waiting.pop()
        word = formula[0]
        if word in (NOT, BOTH, EITHER):
            width = width * (1 if word == NOT else 2)
            waiting.extend(formula[1:])
        elif word == TEST:
            width = width * _many_makers(ground, formula[1])
        for term in _terms_of(formula):
            if isinstance(term, tuple) and term[0] == PART:
                width = width * _many_makers(ground, term[1])
    return width


def decided(ground, formulas):
    """Tell ("yes", answer) of one by which formulas hold, or ("no", paper), however wide they are."""
    return Search(ground, formulas).tell()


class Frame:
    """A state that is gone on from by cases, each with a formula; case_fact is that of the one looked at last."""

    def __init__(self, state, end, formulas):
        self.state = state
        self.end = end
        self.formulas = formulas
        self.case_fact = None
        self.done = []


class Search:
    """All cases looked at, one behind the other, till an answer is found or all are shut.

    What shuts a case without going by its fact shuts all that is ahead of it as well.
    """

    def __init__(self, ground, formulas):
        table = TermTable(ground)
        closure = Closure(table)
        for name in ground.names:
            closure.number_of(name)
        self.proof = Proof(table)
        self.state = State(closure, self.proof)
        for number, formula in enumerate(formulas):
            self.state.take(formula, self.proof.put(("given", number)))
        # More marks than there are sames that may be told not to hold: so one is always left.
        self.stock = Stock(ground.rows, 2 + sum([_many_sames(formula) for formula in formulas]))
        self.frames = []
        self.found = None
        self.great_found = None

    def tell(self):
        """Tell ("yes", answer) or ("no", paper)."""
        shut = None
        while shut is None:
            shut = self._look()
            if self.found is not None:
                return "yes", self.found
            if shut is not None:
                shut = self._back(shut)
        if self.great_found is not None:
            return "yes", self.great_found
        return "no", paper_of(self.proof, shut)

    def _look(self):
        """Look at the state: tell what shuts it, None where it is gone on from by cases or an answer is found."""
        end = self.state.find_end()
        if end is not None:
            return shut_by(self.proof, end)
        split = self.state.cases()
        if split is None:
            filling, split = self.state.fill(self.stock)
            if filling is not None:
                return self._take_answer(filling)
        self.frames.append(Frame(self.state, *split))
        self._begin_case()
        return None

    def _take_answer(self, filling):
        """Take an answer found; one that is great only where no other one is found: so go on as if this were none."""
        if not filling.is_great():
            self.found = filling.answer()
            return None
        self.great_found = filling.answer()
        return Shut(None, (1 << len(self.frames)) - 1, ())

    def _begin_case(self):
        """Begin the next case of the last frame."""
        frame = self.frames[-1]
        formula = frame.formulas[len(frame.done)]
        is_last = len(frame.done) + 1 == len(frame.formulas)
        self.state = frame.state if is_last else frame.state.copied()
        frame.case_fact = self.proof.put_case(len(self.frames))
        self.state.take(formula, frame.case_fact)

    def _back(self, shut):
        """Go back by what shuts a case to the next one, and tell None; where there is none tell what shuts all."""
        while self.frames:
            frame = self.frames[-1]
            if shut.mask & self.proof.masks[frame.case_fact] != 0:
                frame.done.append((frame.case_fact, shut))
                if len(frame.done) < len(frame.formulas):
                    self._begin_case()
                    return None
                shut = shut_by_cases(self.proof, frame.end, frame.done)
            self.frames.pop()
        return shut


def _terms_of(formula):
    """Tell all terms in a same, a test or a sum."""
    if formula[0] == SAME:
        return terms_in(formula[1]) + terms_in(formula[2])
    if formula[0] == TEST:
        return terms_in(formula[2])
    if formula[0] == SUM:
        return [inner for _, term in formula[1] for inner in terms_in(term)]
    return []


def _many_sames(formula):
    if formula[0] in (NOT, BOTH, EITHER):
        return sum([_many_sames(inner) for inner in formula[1:]])
    return 1 if formula[0] == SAME else 0


def _many_makers(ground, maker):
    """Tell how many makers the kind of a maker has."""
    return len(ground.kinds[ground.makers[maker][0]])
