"""Desks: what servers and halls keep, and how it is taken back."""

from asofhall.asks import told_at
from asofhall.entries import arrival_of
from asofhall.errors import BadEntry, BadMoment, NothingDone
from asofhall.journals import Journal
from asofhall.kinds import is_integer


class Desk:
    """A journal, asks by their names, ticks and bulletins, and what was done to them."""

    def __init__(self, book, asked):
        self.journal = Journal(book)
        self.asked = asked
        self.hearings = []
        self.notices = []
        self.past = []

    def copy(self):
        """A desk of its own that keeps the same."""
        twin = Desk(self.journal.book, self.asked)
        twin.journal = self.journal
        twin.hearings = list(self.hearings)
        twin.notices = list(self.notices)
        twin.past = list(self.past)
        return twin

    def feed(self, entry):
        """Puts an entry behind the journal."""
        journal = self.journal.then(entry)
        if len(self.hearings) > 0 and arrival_of(entry) <= self.hearings[-1]:
            raise BadEntry(len(self.journal))
        self.remember()
        self.journal = journal

    def put(self, name, ask):
        """Puts an ask under a name that has none."""
        self.remember()
        self.asked = {**self.asked, name: ask}

    def hear(self, h):
        """The bulletins of the next tick."""
        if not is_integer(h) or (len(self.hearings) > 0 and h <= self.hearings[-1]):
            raise BadMoment(h)
        if self.journal.latest() is not None and h < self.journal.latest():
            raise BadMoment(h)
        told = told_at(self.asked, self.journal, self.notices, h)
        self.remember()
        self.hearings.append(h)
        self.notices.extend(told)
        return told

    def remember(self):
        """Keeps in mind how all is ahead of what is done now."""
        # Entries, ticks and bulletins only grow, so their numbers are enough.
        self.past.append((len(self.journal), self.asked, len(self.hearings), len(self.notices)))

    def undo(self):
        """Takes back what was done last and is not taken back yet."""
        if len(self.past) == 0:
            raise NothingDone()
        entries, self.asked, hearings, notices = self.past.pop()
        if entries < len(self.journal):
            self.journal = Journal(self.journal.book, self.journal.entries[:entries])
        del self.hearings[hearings:]
        del self.notices[notices:]
