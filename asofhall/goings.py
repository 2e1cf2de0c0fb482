"""Goings on of journals: what stands behind more entries, however many."""

from asofhall.entries import TAKEN_BACK, arrival_of, walked
from asofhall.errors import BadMoment
from asofhall.kinds import is_integer

# The rows of a key may be more here than a World may have.


class Standing:
    """The rows of one key that stand, of what is known of rows by their ids."""

    def __init__(self, known, key):
        self.placed = {}
        for number, row in known.items():
            if row != TAKEN_BACK and row[1] == key:
                self.placed.setdefault(row[0], []).append((row[2], number, row[3]))

    def rows(self, stream):
        """The ascending list of the stream's tuples (moment, id, amount)."""
        return sorted(self.placed.get(stream, []))


def check_hearing(journal, h):
    """Raises BadMoment if not all of the journal can be heard by h."""
    if not is_integer(h) or (journal.latest() is not None and h < journal.latest()):
        raise BadMoment(h)


def known_behind(journal, h, thing):
    """What is known of rows behind the entries of a going on from h, or None if the thing is none.

    The thing may be any: it is one if it is a list of entries with arrivals
    above h that are good behind the journal.
    """
    if not isinstance(thing, list):
        return None
    at, known = walked(journal.book, [*journal.entries, *thing])
    if at is not None:
        return None
    for entry in thing:
        if arrival_of(entry) <= h:
            return None
    return known


def first_free(book, stream, h):
    """The first moment of the stream that is not settled at h."""
    return h + 1 - book.late(stream)


def entries_to(journal, key, h, staying, added):
    """Entries behind which, of the rows of the key, only some stand.

    These are the settled ones, the one with the id staying (None: none), and a
    new one for each (stream, moment, amount) that is added; none of these
    moments is settled at h.
    """
    known = journal.known()
    entries = []
    for number, row in known.items():
        if row != TAKEN_BACK and row[1] == key and row[2] >= first_free(journal.book, row[0], h):
            if number != staying:
                entries.append(("gone", number, h + 1))
    number = max([-1, *known])
    for stream, moment, amount in added:
        number += 1
        entries.append(("row", number, stream, key, moment, amount, max(moment, h + 1)))
    return sorted(entries, key=arrival_of)
