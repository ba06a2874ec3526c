"""Stage 6: papers, which show that no answer fits."""

from madesure.errors import NoPaper
from madesure.papers.ends import cases_on
from madesure.papers.steps import Ahead, fact_on
from madesure.papers.walking import is_shut, papers_in, thin
from madesure.terms.terms import ground_of


class Rules:
    """By what the papers of a sheet go."""

    def __init__(self, ground, formulas, facts):
        self.facts = list(facts)
        self.ahead = Ahead(ground, formulas, self.facts)

    def fact_by_step(self, step):
        """Tell the fact that a step makes behind the facts, None of what is no step there."""
        return fact_on(self.ahead, step)

    def cases_by_end(self, end):
        """Tell the (fact, paper) of each case of an end, None where it does not shut."""
        return cases_on(self.ahead, end)


def shows_no(sheet, thing, *, facts=()):
    """Tell whether a thing is a paper of a sheet that is shut behind some facts."""
    return shows_no_on(ground_of(sheet), sheet[2], thing, facts)


def shows_no_on(ground, formulas, thing, facts):
    """Tell whether a thing is a paper of formulas with their ground that is shut behind some facts."""
    return is_shut(Rules(ground, formulas, facts), thing)


def length_of(paper):
    """Tell how many steps, ends and cases a paper has, with those in them."""
    return sum([len(inner[0]) + 1 for _, _, inner in papers_in(paper, 0)])


def thinned(sheet, paper, *, facts=()):
    """Tell a paper that is shut without the steps by whose facts nothing goes."""
    if not shows_no(sheet, paper, facts=facts):
        raise NoPaper("this paper is not shut")
    return thin(paper, len(facts))
