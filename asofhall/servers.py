"""Servers: bulletins that are told step by step."""

from asofhall.asks import asks_of, check_asks, is_closed, last_of
from asofhall.books import Book
from asofhall.desks import Desk
from asofhall.errors import BadAsk, BadBook
from asofhall.kinds import is_name


class Server:
    """Tells about asks, as entries and ticks come in."""

    def __init__(self, book, asks):
        if not isinstance(book, Book):
            raise BadBook(book)
        check_asks(asks)
        self._desk = Desk(book, asks_of(asks, book))
        self.journal = self._desk.journal

    def feed(self, entry):
        """Puts an entry behind those fed so far."""
        self._desk.feed(entry)
        self.journal = self._desk.journal

    def hear(self, h):
        """Takes the next tick; returns the list of its bulletins."""
        return self._desk.hear(h)

    def told(self, name):
        """The last bulletin about the ask, or None."""
        if not is_name(name) or name not in self._desk.asked:
            raise BadAsk(name)
        return last_of(self._desk.notices).get(name)

    def unclosed(self):
        """The ascending list of the names of the asks that are not closed."""
        last = last_of(self._desk.notices)
        return sorted([name for name in self._desk.asked if not is_closed(last.get(name))])

    def undo(self):
        """Takes back the last feed or hear that is not taken back yet."""
        self._desk.undo()
        self.journal = self._desk.journal
