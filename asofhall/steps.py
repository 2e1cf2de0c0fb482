"""Steps: terms that are gone through in an unknown world, case by case.

The terms are written as steps, one behind the other, so that the state of a
case is flat: the number of its next step and the answers found so far. An
answer is None for nothing, or (v, s): variable v plus s.

A step is one of these tuples:
- ("answer", answer): this is an answer;
- ("shift", c): the last answer is moved by c;
- ("or", many): so many steps are left out if the last answer is something; if
  it is nothing, it is dropped;
- ("both", many): so many steps are left out if the last answer is nothing;
- ("later",) and ("earlier",): make one answer of the last two;
- ("look", is_last, stream, kinds, late) and ("seek", is_last, stream, settled,
  free): looks from the last answer; what they may find is told in looks.py;
- ("need",) and ("lack",): nothing is left to show if the last answer is
  nothing, or if it is something;
- ("differ",): the last two answers shall differ;
- ("amount", amounts, told): the row at the last answer shall have another
  amount than told; amounts has those of the settled ones, from s to amount;
- ("beyond", n): the answer ahead of the last one shall be beyond it by more
  than n;
- ("end",): all is gone through.
"""

from asofhall.cases import Case, apart, gone_on
from asofhall.looks import look_cases, seek_cases
from asofhall.moments import Earlier, Either, Last, Now, Shift, is_look

# What stands at a place of a paper.
CHOICE = "choice"
FINE = "fine"
END = "end"


def steps_of(term, about):
    """The steps of a term; about tells of each stream what its looks are besides their stream.

    It is a dict from streams to tuples (word, the last but one, the last).
    """
    if isinstance(term, Now):
        return [("answer", (0, 0))]
    if isinstance(term, Shift):
        return [*steps_of(term.term, about), ("shift", term.amount)]
    if is_look(term):
        word, *told = about[term.stream]
        return [*steps_of(term.term, about), (word, isinstance(term, Last), term.stream, *told)]
    first = steps_of(term.first, about)
    second = steps_of(term.second, about)
    if isinstance(term, Either):
        return [*first, ("or", len(second)), *second]
    word = "earlier" if isinstance(term, Earlier) else "later"
    return [*first, ("both", len(second) + 1), *second, (word,)]


def next_place(steps, case):
    """Goes on to the next place: what stands there, the case there, the cases of a choice."""
    while True:
        step = steps[case.step]
        found = place_at(step, case)
        if found is not None:
            return found
        case = done(step, case)


def place_at(step, case):
    """The place that the step makes in this case, or None."""
    word = step[0]
    if word == "end":
        return END, case, []
    if word == "answer":
        return None
    last = case.answers[-1]
    if is_done(step, case, last):
        return FINE, case, []
    if last is None:
        return None
    if word == "look":
        return CHOICE, case, look_cases(step, case)
    if word == "seek":
        return CHOICE, case, seek_cases(step, case)
    if word == "later" or word == "earlier":
        return CHOICE, case, ordered_cases(word, case)
    if word == "differ" and case.answers[-2] is not None:
        return CHOICE, case, differing_cases(case)
    return None


def is_done(step, case, last):
    """Tells whether nothing is left to show behind the step."""
    word = step[0]
    if word == "need":
        return last is None
    if word == "lack":
        return last is not None
    if word == "differ":
        return last is None and case.answers[-2] is None
    if word != "amount":
        return False
    _, amounts, told = step
    if last is None:
        return told is None
    # A row that is not settled may get any amount.
    return last[0] == 0 and amounts[last[1]] == told


def done(step, case):
    """The case behind a step that makes no place."""
    word = step[0]
    answers = case.answers
    left_out = 0
    facts = ()
    if word == "answer":
        answers = (*answers, step[1])
    elif word == "shift" and answers[-1] is not None:
        variable, more = answers[-1]
        answers = (*answers[:-1], (variable, more + step[1]))
    elif word == "or" and answers[-1] is None:
        answers = answers[:-1]
    elif word == "or" or (word == "both" and answers[-1] is None):
        left_out = step[1]
    elif word == "later" or word == "earlier":
        # The second answer is nothing, so this one is, too.
        answers = (*answers[:-2], None)
    elif word == "beyond":
        facts = (apart(answers[-2], answers[-1], step[1] + 1),)
    return Case(case.step + 1 + left_out, answers, case.count, (*case.facts, *facts), case.found, case.bare)


def ordered_cases(word, case):
    """The cases of later and earlier: the answer is that of one, or that of other."""
    one, other = case.answers[-2:]
    if word == "later":
        choices = ((one, apart(one, other, 0)), (other, apart(other, one, 1)))
    else:
        choices = ((one, apart(other, one, 0)), (other, apart(one, other, 1)))
    return [gone_on(case, case.answers[:-2], answer, (fact,)) for answer, fact in choices]


def differing_cases(case):
    """The cases of two answers that differ: other is above one, or one above other."""
    one, other = case.answers[-2:]
    return [gone_on(case, case.answers[:-1], other, (apart(*pair, 1),)) for pair in ((other, one), (one, other))]
