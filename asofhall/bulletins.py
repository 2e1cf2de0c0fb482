"""Bulletins: what is told about asks when all is heard by one tick after the other."""

from asofhall.asks import asks_of, check_asks, told_at
from asofhall.errors import BadJournal, BadTicks
from asofhall.journals import Journal
from asofhall.kinds import is_integer, is_row

MOST_TICKS = 60


def bulletins(journal, asks, ticks):
    """The list of what is told about the asks at the ticks."""
    if not isinstance(journal, Journal):
        raise BadJournal(journal)
    check_asks(asks)
    check_ticks(ticks)
    asked = asks_of(asks, journal.book)
    told = []
    for h in ticks:
        told = [*told, *told_at(asked, journal.heard(h), told, h)]
    return told


def check_ticks(ticks):
    """Raises BadTicks if these are no ticks."""
    if not is_row(ticks) or len(ticks) > MOST_TICKS:
        raise BadTicks(-1)
    for at, tick in enumerate(ticks):
        if not is_integer(tick) or (at > 0 and tick <= ticks[at - 1]):
            raise BadTicks(at)
