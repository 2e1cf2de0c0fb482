"""Books: by how much the rows of each stream may be heard late."""

from asofhall.errors import BadBook, BadName
from asofhall.kinds import is_integer, is_name

MOST_STREAMS = 8
MOST_LATE = 1000000


class Book:
    """The streams, each with its lateness. A book never changes."""

    def __init__(self, lates):
        if not is_lates(lates):
            raise BadBook(lates)
        self._lates = {stream: lates[stream] for stream in sorted(list(lates))}

    def __eq__(self, other):
        return isinstance(other, Book) and self._lates == other._lates

    def streams(self):
        """The ascending list of the streams."""
        return list(self._lates)

    def has(self, stream):
        """Tells whether the value is a stream of the book."""
        return is_name(stream) and stream in self._lates

    def late(self, stream):
        """The lateness of the stream."""
        if not self.has(stream):
            raise BadName(stream)
        return self._lates[stream]


def check_streams(streams, book):
    """Raises BadName for the least one of the streams that the book does not have."""
    for stream in sorted(streams):
        if not book.has(stream):
            raise BadName(stream)


def is_lates(thing):
    """Tells whether the thing is a dict from 1 to 8 names to latenesses."""
    if not isinstance(thing, dict) or not 1 <= len(thing) <= MOST_STREAMS:
        return False
    return all([is_name(stream) and is_late(late) for stream, late in thing.items()])


def is_late(thing):
    """Tells whether the thing is an integer that may be a lateness."""
    return is_integer(thing) and 0 <= thing <= MOST_LATE
