"""Offices: several writers who work on one journal."""

from asofhall.books import Book
from asofhall.entries import is_entry
from asofhall.errors import BadBook, BadEntry, BadJournal, BadMoment, BadName, Busy, Idle, NothingDone, Stale
from asofhall.journals import Journal
from asofhall.kinds import is_integer, is_name

LONGEST_DRAFT = 20


class Draft:
    """The entries of a writer, without arrivals, and how many closes had been when it was begun."""

    def __init__(self, begun):
        self.begun = begun
        self.entries = []


class Office:
    """A journal, and the drafts of writers that are not closed yet."""

    def __init__(self, book, journal=None):
        if not isinstance(book, Book):
            raise BadBook(book)
        if journal is not None and (not isinstance(journal, Journal) or journal.book != book):
            raise BadJournal(journal)
        self._book = book
        self.journal = Journal(book) if journal is None else journal
        self._drafts = {}
        self._past = []
        # The closes are numbered from 1 on, also those that are taken back; for
        # each entry of the journal, the number of the close that put it there.
        self._closes = 0
        self._closed_by = [0] * len(self.journal)

    def writers(self):
        """The ascending list of the writers with an open draft."""
        return sorted(list(self._drafts))

    def begin(self, writer):
        """Opens an empty draft."""
        if not is_name(writer):
            raise BadName(writer)
        if writer in self._drafts:
            raise Busy(writer)
        self._drafts[writer] = Draft(self._closes)

    def row(self, writer, number, stream, key, moment, amount):
        """Puts a row with the id number into the draft."""
        self._put(writer, ("row", number, stream, key, moment, amount))

    def fix(self, writer, number, moment, amount):
        """Puts a fix of the row with the id number into the draft."""
        self._put(writer, ("fix", number, moment, amount))

    def gone(self, writer, number):
        """Puts into the draft that the row with the id number is taken back."""
        self._put(writer, ("gone", number))

    def draft(self, writer):
        """The list of the entries of the draft, with None in the place of the arrivals."""
        return [(*entry, None) for entry in self._draft_of(writer).entries]

    def drop(self, writer):
        """Ends the draft without any effect on the journal."""
        self._draft_of(writer)
        del self._drafts[writer]

    def close(self, writer, arrival):
        """Puts the entries of the draft behind the journal; returns their number."""
        draft = self._draft_of(writer)
        if not is_integer(arrival):
            raise BadMoment(arrival)
        self._check_fresh(draft)
        journal = self._journal_behind([(*entry, arrival) for entry in draft.entries])
        many = len(draft.entries)
        del self._drafts[writer]
        self._past.append(len(self.journal))
        self._closes += 1
        self._closed_by.extend([self._closes] * many)
        self.journal = journal
        return many

    def undo(self):
        """Takes back the last close that is not taken back yet."""
        if len(self._past) == 0:
            raise NothingDone()
        many = self._past.pop()
        self.journal = Journal(self._book, self.journal.entries[:many])
        del self._closed_by[many:]

    def _draft_of(self, writer):
        """The open draft of the writer."""
        if not is_name(writer) or writer not in self._drafts:
            raise Idle(writer)
        return self._drafts[writer]

    def _put(self, writer, entry):
        """Puts an entry without its arrival behind those of the draft."""
        entries = self._draft_of(writer).entries
        # Of the arrival, any integer will do here.
        if len(entries) == LONGEST_DRAFT or not is_entry((*entry, 0)):
            raise BadEntry(len(entries))
        if entry[0] == "row" and not self._book.has(entry[2]):
            raise BadEntry(len(entries))
        entries.append(entry)

    def _check_fresh(self, draft):
        """Raises Stale for the first id of the draft that has got an entry behind its begin."""
        later = {}
        for entry, close in zip(self.journal.entries, self._closed_by):
            if close > draft.begun:
                later[entry[1]] = True
        for entry in draft.entries:
            if entry[1] in later:
                raise Stale(entry[1])

    def _journal_behind(self, entries):
        """The journal with the entries behind it; BadEntry has an index among these."""
        journal = self.journal
        for at, entry in enumerate(entries):
            try:
                journal = journal.then(entry)
            except BadEntry:
                raise BadEntry(at) from None
        return journal
