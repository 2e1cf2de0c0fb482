"""Pairs of terms: what is asked of both in one unknown world."""

from asofhall.cases import ONE_WORLD, first_case
from asofhall.errors import BadTerm, NoPaper, TooMany
from asofhall.moments import is_term
from asofhall.papers import closed, is_closed
from asofhall.steps import steps_of
from asofhall.worlds import World

MOST_LOOKS = 4
MOST_CHOICES = 6


def check_pair(one, other):
    """Raises the error of the first of both that is no term, or of both together."""
    if not is_term(one):
        raise BadTerm(one)
    if not is_term(other):
        raise BadTerm(other)
    if not is_small_pair(one, other):
        raise TooMany()


def is_small_pair(one, other):
    """Tells whether both terms together are small enough to be asked about."""
    return one.looks + other.looks <= MOST_LOOKS and one.choices + other.choices <= MOST_CHOICES


def term_steps(term):
    """The steps of a term in the one world."""
    return steps_of(term, {stream: ("look", ONE_WORLD, 0) for stream in term.streams()})


def alike_steps(one, other):
    """The steps at whose end the answers differ."""
    return [*term_steps(one), *term_steps(other), ("differ",), ("end",)]


def cover_steps(one, other):
    """The steps at whose end other has an answer and one has none."""
    return [*term_steps(other), ("need",), *term_steps(one), ("lack",), ("end",)]


def both_steps(one, other):
    """The steps at whose end both have an answer."""
    return [*term_steps(one), ("need",), *term_steps(other), ("need",), ("end",)]


def beyond_steps(one, other, n):
    """The steps at whose end one is more than n above other."""
    return [*both_steps(one, other)[:-1], ("beyond", n), ("end",)]


def case_of_pair():
    """The case at the top of a paper about a pair: the asked moment is variable 0."""
    return first_case(1, ())


def shown(steps):
    """A world and an asked moment that come to the end of the steps, or None."""
    _, left = closed(steps, case_of_pair())
    if left is None:
        return None
    case, values = left
    return world_with(case, values, ONE_WORLD), values[0]


def world_with(case, values, kinds):
    """The world of the rows of these kinds, where these values place them."""
    rows = {}
    for row, stream, kind in case.found:
        if kind in kinds:
            rows[stream] = [*rows.get(stream, []), (values[row], row, 0)]
    return World(rows)


def shown_paper(steps):
    """A paper that nothing comes to the end of the steps."""
    paper, _ = closed(steps, case_of_pair())
    if paper is None:
        raise NoPaper()
    return paper


def is_shown_paper(steps, thing):
    """Tells whether the thing is a paper that nothing comes to the end of the steps."""
    return is_closed(steps, case_of_pair(), thing)
