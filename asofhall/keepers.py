"""Keepers: answers at the present, from the needed rows alone."""

from asofhall.answers import answered
from asofhall.books import Book
from asofhall.entries import arrival_of
from asofhall.errors import BadBook, BadIndex, BadMoment, BadName, NotHeard
from asofhall.goings import Standing
from asofhall.kinds import is_integer, is_name
from asofhall.needs import check_asked, check_keepable, needed_of


class Keeper:
    """Answers keepable questions at the present, and keeps needed rows alone."""

    def __init__(self, book, questions):
        if not isinstance(book, Book):
            raise BadBook(book)
        check_keepable(questions)
        check_asked(questions, book)
        self._book = book
        self._questions = tuple(questions)
        self._known = {}
        self._latest = None
        self._present = None
        self._is_heard = False

    def feed(self, entry):
        """Takes the next entry."""
        number = entry[1]
        if entry[0] == "row":
            self._known[number] = tuple(entry[2:6])
        elif number in self._known and entry[0] == "fix":
            stream, key, _, _ = self._known[number]
            self._known[number] = (stream, key, entry[2], entry[3])
        elif number in self._known:
            del self._known[number]
        self._latest = arrival_of(entry)
        self._is_heard = False

    def hear(self, h):
        """Says that all is heard by h; returns the ids of the rows that are dropped."""
        if not is_integer(h):
            raise BadMoment(h)
        if (self._present is not None and h <= self._present) or (self._latest is not None and h < self._latest):
            raise BadMoment(h)
        kept = {number: True for number in needed_of(self._questions, self._book, self._known, h)}
        dropped = [number for number in self._known if number not in kept]
        for number in dropped:
            del self._known[number]
        self._present = h
        self._is_heard = True
        return sorted(dropped)

    def held(self):
        """The ascending list of the ids of the rows that are kept."""
        return sorted(list(self._known))

    def answer(self, index, key):
        """The answer of the question with this index, for the key, at the present."""
        if not is_integer(index) or not 0 <= index < len(self._questions):
            raise BadIndex(index)
        if not is_name(key):
            raise BadName(key)
        if not self._is_heard:
            raise NotHeard()
        told, _ = answered(self._questions[index], Standing(self._known, key), self._present)
        return told

    def copy(self):
        """A keeper of its own that keeps the same."""
        twin = Keeper(self._book, self._questions)
        twin._known = dict(self._known)
        twin._latest = self._latest
        twin._present = self._present
        twin._is_heard = self._is_heard
        return twin
