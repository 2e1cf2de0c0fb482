"""Cases: what is so, in an unknown world, on the way to a place of a paper.

Variable 0 is the asked moment. An answer is None for nothing, or (v, s):
variable v plus s.
"""

# The kinds of rows: of one world, or of two worlds, of which the first is what
# is known at the moment of knowing.
ROW = "row"
SETTLED = "settled"
KNOWN = "known"
COMING = "coming"

ONE_WORLD = (ROW,)
KNOWN_WORLD = (SETTLED, KNOWN)
OTHER_WORLD = (SETTLED, COMING)

# The variable of the moment of knowing, where there is one.
KNOWING = 1


class Case:
    """What is so on the way to a place of a paper. A case never changes.

    count is the number of variables, found the rows (variable, stream, kind),
    and bare the stretches (stream, low, high, kinds): rows of these kinds are
    not there.
    """

    def __init__(self, step, answers, count, facts, found, bare):
        self.step = step
        self.answers = answers
        self.count = count
        self.facts = facts
        self.found = found
        self.bare = bare


def first_case(count, facts):
    """The case at the top of a paper."""
    return Case(0, (), count, facts, (), ())


def with_facts(case, facts):
    """The case with more facts."""
    return Case(case.step, case.answers, case.count, (*case.facts, *facts), case.found, case.bare)


def with_row(case, stream, kind, facts):
    """The case with a new row, of which these facts are known."""
    found = (*case.found, (case.count, stream, kind))
    return Case(case.step, case.answers, case.count + 1, (*case.facts, *facts), found, case.bare)


def with_stretch(case, stretch):
    """The case with one more stretch."""
    return Case(case.step, case.answers, case.count, case.facts, case.found, (*case.bare, stretch))


def gone_on(case, ahead, answer, facts):
    """The case behind its step, with these answers and more facts."""
    return Case(case.step + 1, (*ahead, answer), case.count, (*case.facts, *facts), case.found, case.bare)


def apart(one, other, many):
    """The fact that one is at least so many above other."""
    variable, more = one
    under, less = other
    return (under, variable, more - less - many)
