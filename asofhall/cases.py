"""Cases: all that can occur while terms are gone through in unknown worlds.

The terms are written as steps, one behind the other, so that the state of a
case is flat: the number of its next step and the answers found so far. An
answer is None for nothing, or (v, s): variable v plus s.

A step is one of these tuples:
- ("variable", v): the answer is variable v plus 0;
- ("shift", c): the last answer is moved by c;
- ("or", many): so many steps are left out if the last answer is something; if
  it is nothing, it is dropped;
- ("both", many): so many steps are left out if the last answer is nothing;
- ("later",) and ("earlier",): make one answer of the last two;
- ("look", is_last, stream, kinds, late): a look for rows of these kinds, in
  the place of the last answer;
- ("need",) and ("lack",): nothing is left to show if the last answer is
  nothing, or if it is something;
- ("differ",): the last two answers shall differ;
- ("beyond", n): the answer ahead of the last one shall be beyond it by more
  than n;
- ("end",): all is gone through.
"""

from asofhall.moments import Earlier, Either, Last, Now, Shift, is_look

# The kinds of rows: of one world, or of two worlds, of which the first is what
# is known at the moment of knowing.
ROW = "row"
SETTLED = "settled"
KNOWN = "known"
COMING = "coming"

ONE_WORLD = (ROW,)
KNOWN_WORLD = (SETTLED, KNOWN)
OTHER_WORLD = (SETTLED, COMING)

# The variable of the moment of knowing, where there is one.
KNOWING = 1

# What stands at a place of a paper.
CHOICE = "choice"
FINE = "fine"
END = "end"


class Case:
    """What is so on the way to a place of a paper. A case never changes.

    count is the number of variables, found the rows (variable, stream, kind),
    and bare the stretches (stream, low, high, kinds): rows of these kinds are
    not there.
    """

    def __init__(self, step, answers, count, facts, found, bare):
        self.step = step
        self.answers = answers
        self.count = count
        self.facts = facts
        self.found = found
        self.bare = bare


def first_case(count, facts):
    """The case at the top of a paper."""
    return Case(0, (), count, facts, (), ())


def with_facts(case, facts):
    """The case with more facts."""
    return Case(case.step, case.answers, case.count, (*case.facts, *facts), case.found, case.bare)


def with_row(case, stream, kind, facts):
    """The case with a new row, of which these facts are known."""
    found = (*case.found, (case.count, stream, kind))
    return Case(case.step, case.answers, case.count + 1, (*case.facts, *facts), found, case.bare)


def with_stretch(case, stretch):
    """The case with one more stretch."""
    return Case(case.step, case.answers, case.count, case.facts, case.found, (*case.bare, stretch))


def steps_of(term, kinds, book=None):
    """The steps of a term in a world of rows of these kinds; with a book, new rows keep to it."""
    if isinstance(term, Now):
        return [("variable", 0)]
    if isinstance(term, Shift):
        return [*steps_of(term.term, kinds, book), ("shift", term.amount)]
    if is_look(term):
        late = 0 if book is None else book.late(term.stream)
        look = ("look", isinstance(term, Last), term.stream, kinds, late)
        return [*steps_of(term.term, kinds, book), look]
    first = steps_of(term.first, kinds, book)
    second = steps_of(term.second, kinds, book)
    if isinstance(term, Either):
        return [*first, ("or", len(second)), *second]
    word = "earlier" if isinstance(term, Earlier) else "later"
    return [*first, ("both", len(second) + 1), *second, (word,)]


def next_place(steps, case):
    """Goes on to the next place: what stands there, the case there, the cases of a choice."""
    while True:
        step = steps[case.step]
        found = place_at(step, case)
        if found is not None:
            return found
        case = done(step, case)


def place_at(step, case):
    """The place that the step makes in this case, or None."""
    word = step[0]
    if word == "end":
        return END, case, []
    if word == "variable":
        return None
    last = case.answers[-1]
    if word == "look" and last is not None:
        return CHOICE, case, look_cases(step, case)
    if (word == "later" or word == "earlier") and last is not None:
        return CHOICE, case, ordered_cases(word, case)
    if (word == "need" and last is None) or (word == "lack" and last is not None):
        return FINE, case, []
    if word == "differ" and last is None and case.answers[-2] is None:
        return FINE, case, []
    if word == "differ" and last is not None and case.answers[-2] is not None:
        return CHOICE, case, differing_cases(case)
    return None


def done(step, case):
    """The case behind a step that makes no place."""
    word = step[0]
    answers = case.answers
    left_out = 0
    facts = ()
    if word == "variable":
        answers = (*answers, (step[1], 0))
    elif word == "shift" and answers[-1] is not None:
        variable, more = answers[-1]
        answers = (*answers[:-1], (variable, more + step[1]))
    elif word == "or" and answers[-1] is None:
        answers = answers[:-1]
    elif word == "or" or (word == "both" and answers[-1] is None):
        left_out = step[1]
    elif word == "later" or word == "earlier":
        # The second answer is nothing, so this one is, too.
        answers = (*answers[:-2], None)
    elif word == "beyond":
        facts = (apart(answers[-2], answers[-1], step[1] + 1),)
    return Case(case.step + 1 + left_out, answers, case.count, (*case.facts, *facts), case.found, case.bare)


def apart(one, other, many):
    """The fact that one is at least so many above other."""
    variable, more = one
    under, less = other
    return (under, variable, more - less - many)


def ordered_cases(word, case):
    """The cases of later and earlier: the answer is that of one, or that of other."""
    one, other = case.answers[-2:]
    if word == "later":
        choices = ((one, apart(one, other, 0)), (other, apart(other, one, 1)))
    else:
        choices = ((one, apart(other, one, 0)), (other, apart(one, other, 1)))
    return [gone_on(case, case.answers[:-2], answer, (fact,)) for answer, fact in choices]


def differing_cases(case):
    """The cases of two answers that differ: other is above one, or one above other."""
    one, other = case.answers[-2:]
    return [gone_on(case, case.answers[:-1], other, (apart(*pair, 1),)) for pair in ((other, one), (one, other))]


def gone_on(case, ahead, answer, facts):
    """The case behind its step, with these answers and more facts."""
    return Case(case.step + 1, (*ahead, answer), case.count, (*case.facts, *facts), case.found, case.bare)


def look_cases(step, case):
    """The cases of a look: no row, each row that was added before, a new one of each kind."""
    _, is_last, stream, kinds, late = step
    end = case.answers[-1]
    stretch = (stream, None, end, kinds) if is_last else (stream, end, None, kinds)
    cases = [with_stretch(gone_on(case, case.answers[:-1], None, ()), stretch)]
    for row, place, kind in case.found:
        if place == stream and kind in kinds:
            cases.append(row_case(step, case, row))
    for kind in kinds:
        added = with_row(case, stream, kind, facts_of(kind, case.count, late))
        cases.append(row_case(step, added, case.count))
    return cases


def row_case(step, case, row):
    """The case in which the look finds this row."""
    _, is_last, stream, kinds, _ = step
    end = case.answers[-1]
    if is_last:
        fact = apart(end, (row, 0), 0)
        stretch = (stream, (row, 1), end, kinds)
    else:
        fact = apart((row, 0), end, 0)
        stretch = (stream, end, (row, -1), kinds)
    return with_stretch(gone_on(case, case.answers[:-1], (row, 0), (fact,)), stretch)


def facts_of(kind, row, late):
    """The facts of a new row of this kind, of a stream of this lateness."""
    if kind == SETTLED:
        return ((row, KNOWING, -late),)
    if kind == KNOWN:
        return ((row, KNOWING, 0), (KNOWING, row, late - 1))
    if kind == COMING:
        return ((KNOWING, row, late - 1),)
    return ()
