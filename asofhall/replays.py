"""Replays: parts of journals, joined again, and what was told of them."""

from asofhall.bulletins import bulletins
from asofhall.entries import arrival_of
from asofhall.errors import BadJournal, BadMoment
from asofhall.journals import Journal
from asofhall.kinds import is_integer, is_row

MOST_JOURNALS = 6


def cut(journal, h):
    """The journal of what is heard by h, and the list of the entries behind it."""
    if not isinstance(journal, Journal):
        raise BadJournal(journal)
    return journal.heard(h), [entry for entry in journal.entries if arrival_of(entry) > h]


def joined(journals):
    """The journals of a row, joined from left to right."""
    if not is_row(journals) or not 1 <= len(journals) <= MOST_JOURNALS:
        raise BadJournal(journals)
    if not all([isinstance(journal, Journal) for journal in journals]):
        raise BadJournal(journals)
    whole = journals[0]
    for journal in journals[1:]:
        whole = whole | journal
    return whole


def by_keys(journal):
    """The dict from each key of the journal to the journal of this key only."""
    if not isinstance(journal, Journal):
        raise BadJournal(journal)
    return {key: journal.only(key) for key in journal.key_names()}


def replay(journal, asks, ticks, since):
    """The list of the bulletins whose tick is at least since."""
    told = bulletins(journal, asks, ticks)
    if not is_integer(since):
        raise BadMoment(since)
    return [bulletin for bulletin in told if bulletin[1] >= since]
