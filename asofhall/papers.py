"""Papers: each case that can occur is closed; or worlds in which one is not.

What is left of a case is a tuple (case, values): the values of its variables
keep all its facts, and no row lies in a stretch.
"""

from asofhall.cases import with_facts
from asofhall.facts import goes_round, greatest, solved
from asofhall.kinds import is_integer
from asofhall.steps import CHOICE, FINE, next_place

# How far something can go: to no value at all, most to a number, or endlessly.
NEVER = ("never", None)
ENDLESS = ("endless", None)


def closed(steps, case):
    """A paper for the case and None, or None and what is left of it."""
    what, case, cases = next_place(steps, case)
    if what == FINE:
        return (FINE,), None
    if what != CHOICE:
        return closed_end(case)
    _, around = solved(case.count, case.facts)
    if around is not None:
        return ("ring", around), None
    papers = []
    for inner in cases:
        paper, left = closed(steps, inner)
        if left is not None:
            return None, left
        papers.append(paper)
    return ("cases", tuple(papers)), None


def closed_end(case):
    """A paper for the end of a case and None, or None and what is left of it."""
    values, around = solved(case.count, case.facts)
    if around is not None:
        return ("ring", around), None
    # Only a row that lies in a stretch now is made to lie beside it. So no pair
    # is met again further down, and what is left is found without the others.
    pair = row_in_stretch(case, values)
    if pair is None:
        return None, (case, values)
    row, number = pair
    papers = []
    for fact in facts_beside(row, case.bare[number]):
        paper, left = closed_end(with_facts(case, (fact,)))
        if left is not None:
            return None, left
        papers.append(paper)
    return ("beside", row, number, tuple(papers)), None


def row_in_stretch(case, values):
    """The first pair of a row and the number of a stretch in which it lies, or None."""
    for number, stretch in enumerate(case.bare):
        for row in rows_of_stretch(case, stretch):
            ahead, behind = beside_now(row, stretch, values)
            if not ahead and not behind:
                return row, number
    return None


def rows_of_stretch(case, stretch):
    """The variables of the rows of which the stretch speaks."""
    stream, _, _, kinds = stretch
    return [row for row, place, kind in case.found if place == stream and kind in kinds]


def beside_now(row, stretch, values):
    """Tells whether the row lies ahead of the stretch, and whether behind it."""
    _, low, high, _ = stretch
    ahead = low is not None and values[row] < values[low[0]] + low[1]
    behind = high is not None and values[row] > values[high[0]] + high[1]
    return ahead, behind


def facts_beside(row, stretch):
    """The facts, one for each end that is not missing, that the row lies beside the stretch."""
    _, low, high, _ = stretch
    facts = []
    if low is not None:
        facts.append((row, low[0], low[1] - 1))
    if high is not None:
        facts.append((high[0], row, -high[1] - 1))
    return facts


def is_closed(steps, case, thing):
    """Tells whether the thing is a paper for the case."""
    what, case, cases = next_place(steps, case)
    if is_headed(thing, "ring", 2):
        return goes_round(case.facts, thing[1])
    if what == FINE:
        return is_headed(thing, FINE, 1)
    if what != CHOICE:
        return is_closed_end(case, thing, ())
    if not is_headed(thing, "cases", 2) or not is_tuple_of(thing[1], len(cases)):
        return False
    for inner, paper in zip(cases, thing[1]):
        if not is_closed(steps, inner, paper):
            return False
    return True


def is_closed_end(case, thing, pairs):
    """Tells whether the thing is a paper for the end of a case, behind these pairs."""
    if is_headed(thing, "ring", 2):
        return goes_round(case.facts, thing[1])
    if not is_headed(thing, "beside", 4) or not is_pair(case, thing[1], thing[2]):
        return False
    _, row, number, papers = thing
    facts = facts_beside(row, case.bare[number])
    if (row, number) in pairs or not is_tuple_of(papers, len(facts)):
        return False
    for fact, paper in zip(facts, papers):
        if not is_closed_end(with_facts(case, (fact,)), paper, (*pairs, (row, number))):
            return False
    return True


def is_pair(case, row, number):
    """Tells whether these are a row and the number of a stretch that speaks of it."""
    if not is_integer(row) or not is_integer(number) or not 0 <= number < len(case.bare):
        return False
    return row in rows_of_stretch(case, case.bare[number])


def is_headed(thing, word, many):
    """Tells whether the thing is a tuple of so many things, this word ahead."""
    return is_tuple_of(thing, many) and isinstance(thing[0], str) and thing[0] == word


def is_tuple_of(thing, many):
    """Tells whether the thing is a tuple of so many things."""
    return isinstance(thing, tuple) and len(thing) == many


def farthest(steps, case, most=NEVER):
    """The greatest value that the answer ahead of the last one has above the last one.

    It is taken over all that is left of the case, and most; as ("never", None),
    ("most", n) or ("endless", None).
    """
    what, case, cases = next_place(steps, case)
    if what == FINE or most == ENDLESS:
        return most
    if what != CHOICE:
        return farthest_end(case, most)
    _, around = solved(case.count, case.facts)
    if around is not None:
        return most
    for inner in cases:
        most = farthest(steps, inner, most)
    return most


def farthest_end(case, most):
    """The greatest value at the end of a case, as in farthest."""
    (high, more), (low, less) = case.answers[-2:]
    while most != ENDLESS:
        beyond = case
        if most != NEVER:
            beyond = with_facts(case, ((low, high, more - less - most[1] - 1),))
        _, left = closed_end(beyond)
        if left is None:
            return most
        # Of all that lies to the stretches as it does here, the greatest value
        # is taken at once: so each such order is met once only.
        _, values = left
        top = greatest(case.count, [*case.facts, *facts_now(case, values)], high, low)
        most = ENDLESS if top is None else ("most", top + more - less)
    return most


def facts_now(case, values):
    """The facts that each row lies beside each stretch as it does with these values."""
    facts = []
    for stretch in case.bare:
        for row in rows_of_stretch(case, stretch):
            ahead, _ = beside_now(row, stretch, values)
            around = facts_beside(row, stretch)
            facts.append(around[0] if ahead else around[-1])
    return facts
