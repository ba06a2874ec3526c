"""Stage 7: sums over spans of numbers, decided."""

from math import gcd

from madesure.errors import NoSums
from madesure.kinds.kinds import is_name
from madesure.papers.adding import added, cut, is_below, size_facts, thing_at
from madesure.papers.ends import paired
from madesure.papers.walking import is_shut, thin
from madesure.terms.formulas import SUM, is_sum_of
from madesure.whole import is_whole

MOST_SPANS = 6
MOST_SUMS = 10
MOST_HIGH = 60
MOST_WAYS = 10 ** 5


def decide_sums(spans, sums):
    """Tell ("yes", numbers) by which all sums hold, or ("no", paper) by which none do."""
    _check(spans, sums)
    box = _first_box(spans, sums)
    below = _against(box)
    if below is not None:
        return "no", thin((tuple(box.steps), ("below", below)), 0)
    numbers, paper = _decided(box)
    return ("no", thin(paper, 0)) if numbers is None else ("yes", numbers)


def shows_sums(spans, sums, thing):
    """Tell whether a thing is yes with numbers by which all sums hold, or no with a paper that is shut."""
    _check(spans, sums)
    if not isinstance(thing, tuple) or len(thing) != 2:
        return False
    if thing[0] == "yes":
        return _are_numbers(spans, thing[1]) and _hold(spans, sums, thing[1])
    return thing[0] == "no" and is_shut(SumRules(spans, sums), thing[1])


class SumRules:
    """By what the papers of sums alone go."""

    def __init__(self, spans, sums):
        self.spans = {name: (low, high) for name, low, high in spans}
        self.given = sums
        self.facts = []

    def fact_by_step(self, step):
        """Tell the sum that a step makes behind the facts, None of what is no step there."""
        if not isinstance(step, tuple) or not step:
            return None
        if step[0] == "given" and len(step) == 2:
            return thing_at(self.given, step[1])
        if len(step) != 3:
            return None
        if step[0] == "span":
            return self._span_fact(step[1], step[2])
        if step[0] == "added":
            return added(self.facts, step)
        return cut(self.facts, step) if step[0] == "cut" else None

    def cases_by_end(self, end):
        """Tell the (fact, paper) of each case of an end, None where it does not shut."""
        if end[0] == "below":
            return [] if is_below(self.facts, end) else None
        if end[0] != "sizes" or not self._is_name(end[1]) or not is_whole(end[2]):
            return None
        return paired(size_facts(end[1], end[2]), end[3])

    def _span_fact(self, name, up):
        if not self._is_name(name) or not isinstance(up, bool):
            return None
        low, high = self.spans[name]
        return (SUM, ((1, name),), high) if up else (SUM, ((-1, name),), -low)

    def _is_name(self, thing):
        return isinstance(thing, str) and thing in self.spans


class Box:
    """Bounds of all names, each with the number of the fact that says it, and the steps of the paper so far.

    sums has the (number of the fact, rows, number) of each sum; lows and highs have for each name
    (bound, number of the fact); ahead is how many facts stand.
    """

    def __init__(self, names, ahead):
        self.names = names
        self.ahead = ahead
        self.steps = []
        self.sums = []
        self.lows = {}
        self.highs = {}

    def put(self, step):
        """Put a step behind the others, and tell the number of its fact."""
        self.steps.append(step)
        self.ahead += 1
        return self.ahead - 1

    def half(self, name, middle, is_low):
        """Tell the box of the case that a name's number is at most the middle, or of the other."""
        box = Box(self.names, self.ahead + 1)
        box.sums = self.sums
        box.lows = dict(self.lows)
        box.highs = dict(self.highs)
        if is_low:
            box.highs[name] = (middle, self.ahead)
        else:
            box.lows[name] = (middle + 1, self.ahead)
        return box

    def bound_against(self, factor, name):
        """Tell the bound of a name that makes factor times its number least."""
        return self.lows[name] if factor > 0 else self.highs[name]

    def room(self, rows, most):
        """Tell how far the least to which rows come within the bounds is from the most."""
        return most - sum([factor * self.bound_against(factor, name)[0] for factor, name in rows])

    def without(self, number, rows):
        """Put the step that adds to a sum the bounds of the names in rows, so that these fall away."""
        pairs = [(self.bound_against(factor, name)[1], abs(factor)) for factor, name in rows]
        return self.put(("added", ((number, 1), *pairs), 0))

    def take_sum(self, number, rows, most):
        """Take a sum that is given, divided by what divides all its factors."""
        fact = self.put(("given", number))
        divisor = 0
        for factor, _ in rows:
            divisor = gcd(divisor, factor)
        if divisor < 2:
            self.sums.append((fact, rows, most))
        else:
            divided = [(factor // divisor, name) for factor, name in rows]
            self.sums.append((self.put(("cut", fact, divisor)), divided, most // divisor))


def _first_box(spans, sums):
    """Tell the box of the spans, with all sums given."""
    box = Box([name for name, _, _ in spans], 0)
    for name, low, high in spans:
        box.lows[name] = (low, box.put(("span", name, False)))
        box.highs[name] = (high, box.put(("span", name, True)))
    for number, (_, rows, most) in enumerate(sums):
        box.take_sum(number, rows, most)
    return box


def _against(box):
    """Tell the number of a sum below that two sums with opposite factors come to, None where none do."""
    for number, rows, most in box.sums:
        turned = sorted([(name, -factor) for factor, name in rows])
        for other, its_rows, its_most in box.sums:
            if most + its_most < 0 and turned == sorted([(name, factor) for factor, name in its_rows]):
                return box.put(("added", ((number, 1), (other, 1)), 0))
    return None


def _decided(box):
    """Tell (numbers, None) within a box by which all sums hold, or (None, paper) by which none do."""
    below = _narrowed(box)
    if below is not None:
        return None, (tuple(box.steps), ("below", below))
    widths = {name: box.highs[name][0] - box.lows[name][0] for name in box.names}
    widest = max(box.names, key=lambda name: widths[name])
    if widths[widest] == 0:
        return tuple([box.lows[name][0] for name in box.names]), None
    middle = box.lows[widest][0] + widths[widest] // 2
    papers = []
    for is_low in (True, False):
        numbers, paper = _decided(box.half(widest, middle, is_low))
        if numbers is not None:
            return numbers, None
        papers.append(paper)
    return None, (tuple(box.steps), ("sizes", widest, middle, tuple(papers)))


def _narrowed(box):
    """Narrow the bounds by the sums while that goes on; tell the number of a sum below, if one comes."""
    is_changed = True
    while is_changed:
        is_changed = False
        for number, rows, most in box.sums:
            room = box.room(rows, most)
            if room < 0:
                return box.without(number, rows)
            for factor, name in rows:
                if box.highs[name][0] - box.lows[name][0] > room // abs(factor):
                    _narrow(box, number, rows, (factor, name), room)
                    is_changed = True
    return None


def _narrow(box, number, rows, row, room):
    """Narrow the bound of the name of one row of a sum, which leaves it so much room above its least."""
    factor, name = row
    fact = box.without(number, [other for other in rows if other != row])
    if abs(factor) > 1:
        fact = box.put(("cut", fact, abs(factor)))
    if factor > 0:
        box.highs[name] = (box.lows[name][0] + room // factor, fact)
    else:
        box.lows[name] = (box.highs[name][0] - room // -factor, fact)


def _check(spans, sums):
    """Refuse what are no spans, then what are no sums of these."""
    if not _are_spans(spans):
        raise NoSums("these are no spans")
    names = [name for name, _, _ in spans]
    if not isinstance(sums, tuple) or len(sums) > MOST_SUMS:
        raise NoSums("these are no sums")
    if not all([is_sum_of(thing, lambda term: isinstance(term, str) and term in names) for thing in sums]):
        raise NoSums("these are no sums of the spans")


def _are_spans(thing):
    if not isinstance(thing, tuple) or not 1 <= len(thing) <= MOST_SPANS:
        return False
    if not all([_is_span(row) for row in thing]):
        return False
    ways = 1
    for _, low, high in thing:
        ways = ways * (high - low + 1)
    return ways <= MOST_WAYS and len({row[0] for row in thing}) == len(thing)


def _is_span(thing):
    if not isinstance(thing, tuple) or len(thing) != 3 or not is_name(thing[0]):
        return False
    _, low, high = thing
    return is_whole(low) and is_whole(high) and 0 <= low <= high <= MOST_HIGH


def _are_numbers(spans, thing):
    """Tell whether a thing is a number for each span, in it."""
    if not isinstance(thing, tuple) or len(thing) != len(spans):
        return False
    return all([is_whole(number) and low <= number <= high for number, (_, low, high) in zip(thing, spans)])


def _hold(spans, sums, numbers):
    worth = {name: number for number, (name, _, _) in zip(numbers, spans)}
    return all([sum([factor * worth[name] for factor, name in rows]) <= most for _, rows, most in sums])
