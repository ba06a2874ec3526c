"""Papers walked: their form, whether they are shut, which of their steps are gone by.

Cases have papers in them, and these again: all of them are walked in a row, each ahead of those in
it, and the facts that stand by then are one row that grows and is taken back.
"""

from madesure.errors import NoPaper

# How many things each end has, its word among them; of cases the papers stand last.
END_LENGTHS = {"unlike": 3, "two": 2, "tests": 3, "ring": 2, "below": 2,
               "makers": 3, "sizes": 4, "either": 3, "apart": 3}
CASE_WORDS = ("makers", "sizes", "either", "apart")
# Where the numbers of facts stand in a step or an end, and where rows of such.
NUMBERS = {"left": (1,), "right": (1,), "turned": (1,), "alikepart": (3,), "inner": (1,), "taken": (1,),
           "elsewhere": (1,), "tested": (1,), "shaped": (1,), "moved": (1, 2), "swapped": (1,), "sized": (1,),
           "cut": (1,), "gap": (1,), "unlike": (1, 2), "two": (1,), "tests": (1, 2), "below": (1,), "either": (1,),
           "apart": (1,)}
ROWS = {"linked": 2, "alike": 2, "ring": 1}
PAIRS = "added"


def is_shut(rules, thing):
    """Tell whether a thing is a paper shut behind the facts ahead, by rules.

    rules has the row facts, fact_by_step(step) of the next fact or None, and cases_by_end(end) of the
    (fact, paper) of its cases, or None where it does not shut.
    """
    facts = rules.facts
    waiting = [(len(facts), [], thing)]
    while waiting:
        many, more, paper = waiting.pop()
        del facts[many:]
        facts.extend(more)
        if not _has_form(paper):
            return False
        for step in paper[0]:
            fact = rules.fact_by_step(step)
            if fact is None:
                return False
            facts.append(fact)
        cases = rules.cases_by_end(paper[1])
        if cases is None:
            return False
        waiting.extend([(len(facts), [own], inner) for own, inner in cases[::-1]])
    return True


def papers_in(paper, many):
    """Tell all papers in a paper behind so many facts, itself first, each as (many, own, paper).

    Behind the facts ahead of the one in which it stands there are many till its case, and own 1
    where the case has a fact more. What has not the form of a paper is refused.
    """
    rows = []
    waiting = [(many, 0, paper)]
    while waiting:
        row = waiting.pop()
        if not _has_form(row[2]):
            raise NoPaper("this has not the form of a paper")
        rows.append(row)
        base, own, (steps, end) = row
        if end[0] in CASE_WORDS:
            waiting.extend([(base + own + len(steps), 1, inner) for inner in end[-1][::-1]])
    return rows


def thin(paper, many):
    """Tell a shut paper behind so many facts with just those steps by whose fact something left goes."""
    rows = papers_in(paper, many)
    kept = _steps_kept(rows, many)
    # counts has for each fact how many facts left stand ahead of it, and how many do in all.
    counts = list(range(many + 1))
    thinned_rows = []
    at = 0
    for base, own, (steps, end) in rows:
        del counts[base + 1:]
        counts.extend([counts[-1] + 1] * own)
        left = []
        for step in steps:
            if kept[at]:
                left.append(renumbered(step, counts))
            counts.append(counts[-1] + kept[at])
            at += 1
        thinned_rows.append((tuple(left), renumbered(end, counts)))
    return put_within(thinned_rows)


def _has_form(thing):
    """Tell whether a thing is steps and an end with as many things as its word asks."""
    if not isinstance(thing, tuple) or len(thing) != 2:
        return False
    steps, end = thing
    if not isinstance(steps, tuple) or not isinstance(end, tuple) or not end or not isinstance(end[0], str):
        return False
    if end[0] not in END_LENGTHS or len(end) != END_LENGTHS[end[0]]:
        return False
    return end[0] not in CASE_WORDS or isinstance(end[-1], tuple)


def _steps_kept(rows, many):
    """Tell for each step of the papers, as they are walked, 1 where something left goes by its fact, else 0."""
    # The facts that stand, each by the number of its step among all, None of those that no step made.
    places = [None] * many
    goes_by = []
    kept_by_ends = []
    for base, own, (steps, end) in rows:
        del places[base:]
        places.extend([None] * own)
        for step in steps:
            goes_by.append([places[number] for number in numbers_in(step)])
            places.append(len(goes_by) - 1)
        kept_by_ends.extend([places[number] for number in numbers_in(end)])
    kept = [0] * len(goes_by)
    _mark(kept, kept_by_ends)
    # Steps go by facts ahead of them alone.
    for at in reversed(range(len(goes_by))):
        if kept[at]:
            _mark(kept, goes_by[at])
    return kept


def _mark(kept, places):
    for place in places:
        if place is not None:
            kept[place] = 1


def put_within(rows):
    """Make the paper of all papers in it, in whose ends the papers of their cases are not yet these."""
    done = []
    for steps, end in reversed(rows):
        whole = end
        if end[0] in CASE_WORDS:
            papers = [done.pop() for _ in end[-1]]
            whole = (*end[:-1], tuple(papers))
        done.append((steps, whole))
    return done.pop()


def numbers_in(row):
    """Tell the numbers of facts by which a step or an end goes."""
    word = row[0]
    if word == PAIRS:
        return [number for number, _ in row[1]]
    if word in ROWS:
        return list(row[ROWS[word]])
    return [row[place] for place in NUMBERS.get(word, ())]


def renumbered(row, numbers):
    """Tell a step or an end with other numbers of facts."""
    told = list(row)
    word = row[0]
    if word == PAIRS:
        told[1] = tuple([(numbers[number], times) for number, times in row[1]])
    elif word in ROWS:
        told[ROWS[word]] = tuple([numbers[number] for number in row[ROWS[word]]])
    for place in NUMBERS.get(word, ()):
        told[place] = numbers[row[place]]
    return tuple(told)
