"""Journals: the good entries that were heard, one behind the other."""

from asofhall.books import Book
from asofhall.entries import TAKEN_BACK, arrival_of, walked
from asofhall.errors import BadBook, BadEntry, BadMoment, BadName
from asofhall.kinds import is_integer, is_name, is_row

MOST_ENTRIES = 400


class Journal:
    """A book and good entries. A journal never changes."""

    def __init__(self, book, entries=()):
        if not isinstance(book, Book):
            raise BadBook(book)
        if not is_row(entries) or len(entries) > MOST_ENTRIES:
            raise BadEntry(-1)
        at, known = walked(book, entries)
        if at is not None:
            raise BadEntry(at)
        self.book = book
        self.entries = tuple(entries)
        self._known = known

    def __eq__(self, other):
        return isinstance(other, Journal) and self.book == other.book and self.entries == other.entries

    def __len__(self):
        return len(self.entries)

    def __or__(self, other):
        if self.book != other.book:
            raise BadBook(other.book)
        # sorted is stable, so equal arrivals keep this journal's entries ahead.
        entries = sorted([*self.entries, *other.entries], key=arrival_of)
        # A bad entry among the first 400 is told ahead of the 401st.
        whole = Journal(self.book, entries[:MOST_ENTRIES])
        if len(entries) > MOST_ENTRIES:
            raise BadEntry(MOST_ENTRIES)
        return whole

    def latest(self):
        """The arrival of the last entry, or None."""
        if len(self.entries) == 0:
            return None
        return arrival_of(self.entries[-1])

    def then(self, entry):
        """The journal with one more entry."""
        if len(self.entries) == MOST_ENTRIES:
            raise BadEntry(MOST_ENTRIES)
        return Journal(self.book, [*self.entries, entry])

    def heard(self, h):
        """The journal of the entries with arrivals of at most h."""
        if not is_integer(h):
            raise BadMoment(h)
        return Journal(self.book, [entry for entry in self.entries if arrival_of(entry) <= h])

    def only(self, key):
        """The journal of the entries of the rows with this key."""
        if not is_name(key):
            raise BadName(key)
        kept = {entry[1]: True for entry in self.entries if entry[0] == "row" and entry[3] == key}
        return Journal(self.book, [entry for entry in self.entries if entry[1] in kept])

    def without(self, ids):
        """The journal that leaves out all entries with one of the ids."""
        left_out = {number: True for number in ids}
        return Journal(self.book, [entry for entry in self.entries if entry[1] not in left_out])

    def rows(self, stream, key):
        """The ascending list of (moment, id, amount) of the rows that stand."""
        if not self.book.has(stream):
            raise BadName(stream)
        if not is_name(key):
            raise BadName(key)
        found = []
        for number, row in self._known.items():
            if row != TAKEN_BACK and row[0] == stream and row[1] == key:
                found.append((row[2], number, row[3]))
        return sorted(found)

    def known(self):
        """What is known of the rows behind all entries, by their ids."""
        return dict(self._known)

    def key_names(self):
        """The ascending list of the keys of all row entries."""
        return sorted(set([entry[3] for entry in self.entries if entry[0] == "row"]))
