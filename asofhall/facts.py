"""Facts: that a variable is at most another one plus a number.

A fact is a tuple (a, b, c): variable a is at most variable b plus c.
"""

from asofhall.errors import BadFact
from asofhall.kinds import are_integers, is_integer


def ring(count, facts):
    """A ring of the facts, or None if some values of the variables keep them all."""
    check_facts(facts, count)
    _, around = solved(count, facts)
    return around


def solution(count, facts):
    """A list of values of the variables that keep all facts, or None."""
    check_facts(facts, count)
    values, _ = solved(count, facts)
    return values


def is_ring(facts, thing):
    """Tells whether the thing is a ring of the facts."""
    check_facts(facts, None)
    return goes_round(facts, thing)


def check_facts(facts, count):
    """Raises BadFact for the first one that is not a fact of so many variables (None: any)."""
    for at, fact in enumerate(facts):
        if not is_fact(fact) or (count is not None and max(fact[0], fact[1]) >= count):
            raise BadFact(at)


def is_fact(thing):
    """Tells whether the thing is a fact of any variables."""
    if not isinstance(thing, tuple) or len(thing) != 3 or not are_integers(thing):
        return False
    return thing[0] >= 0 and thing[1] >= 0


def solved(count, facts):
    """Values that keep all facts and None, or None and a ring of the facts."""
    values = [0] * count
    because = [None] * count
    lowered = None
    # Without a ring nothing is lowered any more in the last of these rounds.
    for _ in range(count + 1):
        lowered = None
        for at, (low, high, more) in enumerate(facts):
            if values[high] + more < values[low]:
                values[low] = values[high] + more
                because[low] = at
                lowered = low
        if lowered is None:
            return values, None
    return None, ring_behind(facts, because, lowered)


def ring_behind(facts, because, lowered):
    """The ring to which the facts lead because of which a variable was lowered at last."""
    variable = lowered
    # So many facts behind it the way has come into the ring, wherever it began.
    for _ in because:
        variable = facts[because[variable]][1]
    around = []
    first = variable
    while len(around) == 0 or variable != first:
        around.append(because[variable])
        variable = facts[because[variable]][1]
    return tuple(around)


def goes_round(facts, thing):
    """Tells whether the thing is a ring of the facts, which are facts."""
    if not isinstance(thing, tuple) or len(thing) == 0:
        return False
    for at in thing:
        if not is_integer(at) or not 0 <= at < len(facts):
            return False
    behind = facts[thing[-1]][1]
    total = 0
    for at in thing:
        low, high, more = facts[at]
        if low != behind:
            return False
        behind = high
        total += more
    return total < 0


def greatest(count, facts, high, low):
    """The greatest value of variable high minus variable low, or None if it is endless.

    Some values keep all facts.
    """
    above = [None] * count
    above[low] = 0
    for _ in range(count):
        for under, over, more in facts:
            if above[over] is not None and (above[under] is None or above[over] + more < above[under]):
                above[under] = above[over] + more
    return above[high]
