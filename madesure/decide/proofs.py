"""Facts that may come to stand in a paper, and the papers made of those that are gone by.

Within a search, levels of cases are begun and ended; a fact stands as long as all the cases that it
goes by. In a paper it is put no deeper than these cases are, and it is left out where nothing goes by it.
"""

from madesure.papers.walking import numbers_in, put_within, renumbered

# Where a step or an end has a term, which stands by its number till the paper is made.
TERMS = {"linked": 1, "kind": 1, "counts": 1, "makers": 1, "sizes": 1}


class Proof:
    """Facts by number, in the order in which they came.

    steps has for each the step that tells it, in which terms and facts stand by their numbers, or
    None of a case's fact. masks has for each, as bits, the levels of the cases that it goes by.
    """

    def __init__(self, table):
        self.table = table
        self.steps = []
        self.masks = []
        self.known = {}

    def put(self, step):
        """Tell the number of the fact that a step tells."""
        if step not in self.known:
            self.known[step] = len(self.steps)
            mask = self.mask_of(step)
            self.steps.append(step)
            self.masks.append(mask)
        return self.known[step]

    def put_case(self, level):
        """Tell the number of the fact of a case of a level, from 1 on."""
        self.steps.append(None)
        self.masks.append(1 << (level - 1))
        return len(self.steps) - 1

    def mask_of(self, row):
        """Tell the levels by which a step or an end goes."""
        mask = 0
        for fact in numbers_in(row):
            mask = mask | self.masks[fact]
        return mask

    def level_of(self, fact):
        """Tell the deepest level by which a fact goes, 0 where it goes by none."""
        return self.masks[fact].bit_length()

    def finished(self, row, numbers):
        """Tell a step or an end with other numbers of facts, and with its term itself."""
        told = renumbered(row, numbers)
        if row[0] in TERMS:
            place = TERMS[row[0]]
            return (*told[:place], self.table.terms[told[place]], *told[place + 1:])
        return told


class Shut:
    """What shuts: an end without its papers, the levels by which it goes, and for each case (fact, what shuts it)."""

    def __init__(self, end, mask, cases):
        self.end = end
        self.mask = mask
        self.cases = cases


def shut_by(proof, end):
    """Tell what shuts by an end without cases."""
    return Shut(end, proof.mask_of(end), ())


def shut_by_cases(proof, end, cases):
    """Tell what shuts by an end with cases, each (fact, what shuts it)."""
    mask = proof.mask_of(end)
    for fact, shut in cases:
        mask = mask | (shut.mask & ~proof.masks[fact])
    return Shut(end, mask, tuple(cases))


def paper_of(proof, shut):
    """Make the paper of what shuts without going by any level."""
    rows = _rows_of(shut)
    placed = _placed(proof, rows)
    numbers = {}
    counts = []
    papers = []
    for (inner, own, ahead), facts in zip(rows, placed):
        many = 0 if ahead is None else counts[ahead]
        if own is not None:
            numbers[own] = many
            many += 1
        many = _number(numbers, facts, many)
        counts.append(many)
        steps = tuple([proof.finished(proof.steps[fact], numbers) for fact in facts])
        end = proof.finished(inner.end, numbers)
        if inner.cases:
            end = (*end, inner.cases)
        papers.append((steps, end))
    return put_within(papers)


def steps_of(proof, facts):
    """Tell (steps, numbers): the steps of all that facts go by, themselves too, and the number that each fact has."""
    needed = sorted(_gone_by(proof, facts))
    numbers = {}
    _number(numbers, needed, 0)
    return [proof.finished(proof.steps[fact], numbers) for fact in needed], numbers


def _number(numbers, facts, many):
    """Give facts the numbers from many on, and tell the next one."""
    for fact in facts:
        numbers[fact] = many
        many += 1
    return many


def _rows_of(shut):
    """Tell of it and all cases (what shuts, the case's fact or None, the place of the row in which it is a case)."""
    rows = []
    waiting = [(shut, None, None)]
    while waiting:
        row = waiting.pop()
        place = len(rows)
        rows.append(row)
        waiting.extend([(inner, fact, place) for fact, inner in row[0].cases[::-1]])
    return rows


def _placed(proof, rows):
    """Tell for each row the facts, rising, whose steps stand in its paper: those that go no deeper than it."""
    placed = [[] for _ in rows]
    wanted = [numbers_in(shut.end) for shut, _, _ in rows]
    for place in reversed(range(len(rows))):
        _, own, ahead = rows[place]
        level = 0 if own is None else proof.level_of(own)
        seen = set()
        waiting = wanted[place]
        while waiting:
            fact = waiting.pop()
            if fact == own or fact in seen:
                continue
            seen.add(fact)
            if proof.level_of(fact) == level:
                placed[place].append(fact)
                waiting.extend(numbers_in(proof.steps[fact]))
            else:
                wanted[ahead].append(fact)
        placed[place] = sorted(placed[place])
    return placed


def _gone_by(proof, facts):
    """Tell all facts that some facts go by, themselves too."""
    told = {}
    waiting = list(facts)
    while waiting:
        fact = waiting.pop()
        if fact not in told:
            told[fact] = True
            waiting.extend(numbers_in(proof.steps[fact]))
    return list(told)
