"""Leads: by how much one term can be above another one."""

from asofhall.errors import BadMoment
from asofhall.kinds import is_integer
from asofhall.pairs import beyond_steps, both_steps, case_of_pair, check_pair, is_shown_paper, shown, shown_paper
from asofhall.papers import farthest


def lead(one, other):
    """The greatest value of one minus other: ("never", None), ("most", n) or ("endless", None)."""
    check_pair(one, other)
    return farthest(both_steps(one, other), case_of_pair())


def reaching(one, other, n):
    """A world and an asked moment for which one minus other is at least n, or None."""
    check_lead(one, other, n)
    return shown(beyond_steps(one, other, n - 1))


def lead_paper(one, other, n):
    """A paper that one minus other is at most n."""
    check_lead(one, other, n)
    return shown_paper(beyond_steps(one, other, n))


def is_lead_paper(one, other, n, thing):
    """Tells whether the thing is a paper that one minus other is at most n."""
    check_lead(one, other, n)
    return is_shown_paper(beyond_steps(one, other, n), thing)


def check_lead(one, other, n):
    """Raises the error of the first of the three that is not what it must be."""
    check_pair(one, other)
    if not is_integer(n):
        raise BadMoment(n)
