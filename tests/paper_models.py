"""A plain model of papers, written after the words of the document.

A place of a paper is ("choice", case, places), ("fine", case) or ("end", case),
where each of the places of a choice is a function that makes it. A case is a
dict of its facts, its rows (variable -> (stream, kind)) and its stretches
(stream, low, high, kinds).
"""

from asofhall.facts import ring
from asofhall.moments import Earlier, Either, Last, Later, Next, Now, Shift

# Which kinds of rows there are, and what is said of a new one (x) of each kind,
# where k is the moment of knowing and d the lateness of its stream.
ONE = {"row": lambda x, d: []}
FIRST = {"settled": lambda x, d: [(x, 1, -d)], "known": lambda x, d: [(x, 1, 0), (1, x, d - 1)]}
SECOND = {"settled": lambda x, d: [(x, 1, -d)], "coming": lambda x, d: [(1, x, d - 1)]}


def empty(variables=1, facts=()):
    return {"variables": variables, "facts": tuple(facts), "rows": {}, "stretches": ()}


def plus(case, facts=(), stretches=(), rows=()):
    return {
        "variables": case["variables"] + len(rows), "facts": (*case["facts"], *facts),
        "rows": {**case["rows"], **dict(rows)}, "stretches": (*case["stretches"], *stretches)}


def go(term, world, book, case, then):
    """The place to which going through the term comes; then goes on with its answer."""
    if isinstance(term, Now):
        return then(case, (0, 0))
    if isinstance(term, Shift):
        return go(term.term, world, book, case,
                  lambda inner, got: then(inner, None if got is None else (got[0], got[1] + term.amount)))
    if isinstance(term, Either):
        return go(term.first, world, book, case,
                  lambda inner, got: then(inner, got) if got else go(term.second, world, book, inner, then))
    if isinstance(term, (Later, Earlier)):
        return go(term.first, world, book, case, lambda inner, got: then(inner, None) if got is None else go(
            term.second, world, book, inner, lambda last, more: both(term, last, got, more, then)))
    return go(term.term, world, book, case,
              lambda inner, got: then(inner, None) if got is None else look(term, world, book, inner, got, then))


def both(term, case, got, more, then):
    if more is None:
        return then(case, None)
    (v, s), (u, t) = got, more
    if isinstance(term, Later):
        facts = [(u, v, s - t), (v, u, t - s - 1)]
    else:
        facts = [(v, u, t - s), (u, v, s - t - 1)]
    return ("choice", case, [
        lambda: then(plus(case, [facts[0]]), got), lambda: then(plus(case, [facts[1]]), more)])


def look(term, world, book, case, got, then):
    v, s = got
    last = isinstance(term, Last)

    def none():
        return then(plus(case, stretches=[(term.stream, None if last else got, got if last else None, tuple(world))]), None)

    def found(inner, x):
        fact = (x, v, s) if last else (v, x, -s)
        ends = ((x, 1), got) if last else (got, (x, -1))
        return then(plus(inner, [fact], [(term.stream, *ends, tuple(world))]), (x, 0))

    def new(kind):
        x = case["variables"]
        late = book.late(term.stream) if book else 0
        return found(plus(case, world[kind](x, late), rows=[(x, (term.stream, kind))]), x)

    places = [none]
    for x, (stream, kind) in case["rows"].items():
        if stream == term.stream and kind in world:
            places.append(lambda x=x: found(case, x))
    return ("choice", case, places + [lambda kind=kind: new(kind) for kind in world])


def differ(case, got, more):
    if got is None and more is None:
        return ("fine", case)
    if got is None or more is None:
        return ("end", case)
    (v, s), (u, t) = got, more
    return ("choice", case, [
        lambda: ("end", plus(case, [(v, u, t - s - 1)])), lambda: ("end", plus(case, [(u, v, s - t - 1)]))])


def alike_place(one, other):
    return go(one, ONE, None, empty(), lambda case, got: go(
        other, ONE, None, case, lambda last, more: differ(last, got, more)))


def cover_place(one, other):
    return go(other, ONE, None, empty(), lambda case, got: ("fine", case) if got is None else go(
        one, ONE, None, case, lambda last, more: ("fine", last) if more else ("end", last)))


def lead_place(one, other, n):
    def beyond(case, got, more):
        if more is None:
            return ("fine", case)
        (v, s), (u, t) = got, more
        return ("end", plus(case, [(u, v, s - t - n - 1)]))

    return go(one, ONE, None, empty(), lambda case, got: ("fine", case) if got is None else go(
        other, ONE, None, case, lambda last, more: beyond(last, got, more)))


def wait_place(term, book, wait):
    return go(term, FIRST, book, empty(2, [(0, 1, -wait)]), lambda case, got: go(
        term, SECOND, book, case, lambda last, more: differ(last, got, more)))


def goes_round(facts, thing):
    if type(thing) is not tuple or not thing:
        return False
    if any(type(at) is not int or not 0 <= at < len(facts) for at in thing):
        return False
    joined = all(facts[one][1] == facts[two][0] for one, two in zip(thing, thing[1:] + thing[:1]))
    return joined and sum(facts[at][2] for at in thing) < 0


def beside(case, row, number):
    """The cases of a row and a stretch, or None if the row is none of it."""
    if type(row) is not int or type(number) is not int or not 0 <= number < len(case["stretches"]):
        return None
    stream, low, high, kinds = case["stretches"][number]
    if row not in case["rows"] or case["rows"][row][0] != stream or case["rows"][row][1] not in kinds:
        return None
    facts = [] if low is None else [(row, low[0], low[1] - 1)]
    facts += [] if high is None else [(high[0], row, -high[1] - 1)]
    return [plus(case, [fact]) for fact in facts]


def judge(place, thing, pairs=()):
    """Tells whether the thing is a paper for the place."""
    if type(thing) is not tuple or not thing or type(thing[0]) is not str:
        return False
    case = place[1]
    if thing[0] == "ring":
        return len(thing) == 2 and goes_round(case["facts"], thing[1])
    if thing[0] == "fine":
        return len(thing) == 1 and place[0] == "fine"
    if thing[0] == "cases":
        if place[0] != "choice" or len(thing) != 2 or type(thing[1]) is not tuple or len(thing[1]) != len(place[2]):
            return False
        return all(judge(make(), paper) for make, paper in zip(place[2], thing[1]))
    if thing[0] != "beside" or place[0] != "end" or len(thing) != 4 or type(thing[3]) is not tuple:
        return False
    cases = beside(case, thing[1], thing[2])
    if cases is None or (thing[1], thing[2]) in pairs or len(cases) != len(thing[3]):
        return False
    return all(judge(("end", inner), paper, (*pairs, thing[1:3])) for inner, paper in zip(cases, thing[3]))


def build(place, rng, pairs=()):
    """A paper for the place, as chance has it, or None: rings stand early or late, pairs in any order."""
    case = place[1]
    around = ring(case["variables"], list(case["facts"]))
    if around and (place[0] == "end" or rng.randrange(2)):
        turn = rng.randrange(len(around))
        return ("ring", (around[turn:] + around[:turn]) * rng.choice((1, 1, 2)))
    if place[0] == "fine":
        return ("fine",)
    if place[0] == "choice":
        papers = [build(make(), rng) for make in place[2]]
        return None if None in papers else ("cases", tuple(papers))
    choices = [(row, number) for row in case["rows"] for number in range(len(case["stretches"]))
               if beside(case, row, number) and (row, number) not in pairs]
    if not choices:
        return None
    row, number = rng.choice(choices)
    papers = [build(("end", inner), rng, (*pairs, (row, number))) for inner in beside(case, row, number)]
    return None if None in papers else ("beside", row, number, tuple(papers))


def spoiled(paper, rng):
    """The paper with another thing in one place."""
    if type(paper) is not tuple or not paper or rng.randrange(6) == 0:
        if type(paper) is int:
            return rng.choice((paper + 1, paper - 1, -paper - 1, paper == 1, str(paper), None))
        if type(paper) is str:
            return rng.choice(("fine", "ring", "cases", "beside", paper.upper(), ""))
        return rng.choice((
            paper[1:], paper[:-1], (*paper, *paper[-1:]), paper[::-1], ("fine",), ("ring", (0,)), ("ring", ()), list(paper),
            (), ("cases", ()), ("beside", 1, 0, (("fine",),)), ("cases", (("fine",), ("fine",))), 0, None))
    at = rng.randrange(len(paper))
    return (*paper[:at], spoiled(paper[at], rng), *paper[at + 1:])
