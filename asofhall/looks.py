"""Looks: the cases that can occur where a look goes through an unknown world.

- ("look", is_last, stream, kinds, late): nothing is known of the world; rows of
  these kinds may be there, in a stream of this lateness.
- ("seek", is_last, stream, settled, free): variable 0 plus each of the settled,
  which ascend, has a row; other rows may be from variable 0 plus free on alone,
  which is above the settled ones.
"""

from asofhall.cases import COMING, KNOWING, KNOWN, ONE_WORLD, ROW, SETTLED
from asofhall.cases import apart, gone_on, with_row, with_stretch


def look_cases(step, case):
    """The cases of a look: no row, each row that was added before, a new one of each kind."""
    _, is_last, stream, kinds, late = step
    end = case.answers[-1]
    stretch = (stream, None, end, kinds) if is_last else (stream, end, None, kinds)
    cases = [with_stretch(gone_on(case, case.answers[:-1], None, ()), stretch)]
    for row, place, kind in case.found:
        if place == stream and kind in kinds:
            cases.append(row_case(step, kinds, case, row))
    for kind in kinds:
        added = with_row(case, stream, kind, facts_of(kind, case.count, late))
        cases.append(row_case(step, kinds, added, case.count))
    return cases


def row_case(step, kinds, case, row):
    """The case in which the look finds this row, and ahead of it none of these kinds."""
    _, is_last, stream, _, _ = step
    end = case.answers[-1]
    if is_last:
        fact = apart(end, (row, 0), 0)
        stretch = (stream, (row, 1), end, kinds)
    else:
        fact = apart((row, 0), end, 0)
        stretch = (stream, end, (row, -1), kinds)
    return with_stretch(gone_on(case, case.answers[:-1], (row, 0), (fact,)), stretch)


def facts_of(kind, row, late):
    """The facts of a new row of this kind, of a stream of this lateness."""
    if kind == SETTLED:
        return ((row, KNOWING, -late),)
    if kind == KNOWN:
        return ((row, KNOWING, 0), (KNOWING, row, late - 1))
    if kind == COMING:
        return ((KNOWING, row, late - 1),)
    return ()


def seek_cases(step, case):
    """The cases of a look in a world of which the settled rows are known."""
    _, is_last, stream, settled, free = step
    facts = [apart((case.count, 0), (0, free), 0)]
    if not is_last and len(settled) > 0:
        # A Next finds another row only from behind the settled ones.
        facts.append(apart(case.answers[-1], (0, settled[-1]), 1))
    # The row may be at the moment of one that was added before: so there is no
    # case of its own for these.
    added = with_row(case, stream, ROW, facts)
    return [*settled_cases(step, case), row_case(step, ONE_WORLD, added, case.count)]


def settled_cases(step, case):
    """The cases in which a settled row is found, or none."""
    _, is_last, stream, settled, _ = step
    end = case.answers[-1]
    cases = []
    for moment, low, high in last_spans(settled) if is_last else next_spans(settled):
        # From a moment that is known only one of the spans is left.
        if end[0] == 0 and not lies_in(end[1], low, high):
            continue
        facts = []
        if low is not None:
            facts.append(apart(end, (0, low), 0))
        if high is not None:
            facts.append(apart((0, high), end, 0))
        answer = None if moment is None else (0, moment)
        found = gone_on(case, case.answers[:-1], answer, facts)
        if is_last:
            found = with_stretch(found, (stream, None, end, ONE_WORLD))
        elif moment is None:
            found = with_stretch(found, (stream, end, None, ONE_WORLD))
        cases.append(found)
    return cases


def lies_in(moment, low, high):
    """Tells whether the moment lies from low to high, each of which may be missing."""
    return (low is None or low <= moment) and (high is None or moment <= high)


def last_spans(settled):
    """What a Last finds of the settled moments, each with the first and last moment to look from."""
    founds = [None, *settled]
    highs = [*[moment - 1 for moment in settled], None]
    return [(found, found, high) for found, high in zip(founds, highs)]


def next_spans(settled):
    """What a Next finds of the settled moments, each with the first and last moment to look from."""
    founds = [*settled, None]
    lows = [None, *[moment + 1 for moment in settled]]
    return [(found, low, found) for found, low in zip(founds, lows)]
