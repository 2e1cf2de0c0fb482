"""Halls: stores at work, which read lines, take asks and tell bulletins."""

from asofhall.asks import MOST_ASKS, Ask, is_askable
from asofhall.books import Book, check_streams
from asofhall.desks import Desk
from asofhall.errors import BadAsk, BadBook, BadMoment, BadName
from asofhall.forms import check_form
from asofhall.kinds import is_integer, is_name
from asofhall.lines import read_line, write_journal
from asofhall.plans import MOST_QUESTIONS, Plan
from asofhall.wordings import read_question


class Hall:
    """A store at work: the journal of the lines so far, asks and ticks."""

    def __init__(self, book, form):
        if not isinstance(book, Book):
            raise BadBook(book)
        check_form(form)
        self._form = form
        self._desk = Desk(book, {})
        self.journal = self._desk.journal

    def line(self, text):
        """Reads a line, and puts its entry behind those so far; returns the entry."""
        entry = read_line(self._form, text)
        self._desk.feed(entry)
        self.journal = self._desk.journal
        return entry

    def ask(self, name, text, key, now):
        """Puts an ask; returns its question."""
        if not is_name(name) or name in self._desk.asked or len(self._desk.asked) == MOST_ASKS:
            raise BadAsk(name)
        question = read_question(text)
        if not is_name(key):
            raise BadName(key)
        if not is_integer(now):
            raise BadMoment(now)
        if not is_askable(question):
            raise BadAsk(name)
        check_streams(question.streams(), self.journal.book)
        self._desk.put(name, Ask(question, key, now, self.journal.book))
        return question

    def hear(self, h):
        """Takes the next tick; returns the list of its bulletins."""
        return self._desk.hear(h)

    def undo(self):
        """Takes back the last line, ask or hear that is not taken back yet."""
        self._desk.undo()
        self.journal = self._desk.journal

    def trial(self, deed):
        """What deed(hall) returns; behind it, all is as it was ahead of it."""
        desk = self._desk
        journal = self.journal
        self._desk = desk.copy()
        try:
            return deed(self)
        finally:
            self._desk = desk
            self.journal = journal

    def asks(self):
        """The dict from the names of the asks to tuples (question, key, now)."""
        asked = self._desk.asked
        return {name: (asked[name].question, asked[name].key, asked[name].now) for name in sorted(list(asked))}

    def ticks(self):
        """The list of the ticks so far."""
        return list(self._desk.hearings)

    def told(self):
        """The list of all bulletins so far."""
        return list(self._desk.notices)

    def lines(self):
        """The journal as a text."""
        return write_journal(self._form, self.journal)

    def plan(self):
        """The plan of the questions of the asks, by ascending names."""
        asked = self._desk.asked
        if not 1 <= len(asked) <= MOST_QUESTIONS:
            raise BadAsk("")
        return Plan([asked[name].question for name in sorted(list(asked))])

    def same(self, other):
        """Tells whether other is a hall with the same entries, asks, ticks and bulletins."""
        if not isinstance(other, Hall) or self._form != other._form or self.journal != other.journal:
            return False
        return self.asks() == other.asks() and self.ticks() == other.ticks() and self.told() == other.told()
