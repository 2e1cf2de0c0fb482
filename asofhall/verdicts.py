"""Verdicts: whether two terms are alike, or one covers the other, in all worlds."""

from asofhall.answers import value
from asofhall.kinds import is_integer
from asofhall.pairs import alike_steps, check_pair, cover_steps, is_shown_paper, shown, shown_paper
from asofhall.papers import is_tuple_of
from asofhall.worlds import World


def alike(one, other):
    """Tells whether both always have the same answer, or both none."""
    return parting(one, other) is None


def covers(one, other):
    """Tells whether one has an answer wherever other has one."""
    return lacking(one, other) is None


def parting(one, other):
    """A world and an asked moment for which the answers differ, or None."""
    check_pair(one, other)
    return shown(alike_steps(one, other))


def lacking(one, other):
    """A world and an asked moment for which other has an answer and one has none, or None."""
    check_pair(one, other)
    return shown(cover_steps(one, other))


def is_parting(one, other, thing):
    """Tells whether the thing is a world and an asked moment for which the answers differ."""
    check_pair(one, other)
    if not is_tuple_of(thing, 2) or not isinstance(thing[0], World) or not is_integer(thing[1]):
        return False
    return value(one, thing[0], thing[1]) != value(other, thing[0], thing[1])


def paper(one, other):
    """A paper that both are alike."""
    check_pair(one, other)
    return shown_paper(alike_steps(one, other))


def cover_paper(one, other):
    """A paper that one covers other."""
    check_pair(one, other)
    return shown_paper(cover_steps(one, other))


def is_paper(one, other, thing):
    """Tells whether the thing is a paper that both are alike."""
    check_pair(one, other)
    return is_shown_paper(alike_steps(one, other), thing)


def is_cover_paper(one, other, thing):
    """Tells whether the thing is a paper that one covers other."""
    check_pair(one, other)
    return is_shown_paper(cover_steps(one, other), thing)
