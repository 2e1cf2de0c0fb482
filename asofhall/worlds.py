"""Worlds: the rows of one key at one time."""

from asofhall.errors import BadJournal, BadName, BadRows
from asofhall.journals import Journal
from asofhall.kinds import are_integers, is_name, is_natural, is_row

MOST_ROWS = 400


class World:
    """The rows of some streams. A world never changes."""

    def __init__(self, rows):
        if not is_rows(rows):
            raise BadRows(-1)
        ids = sorted([row[1] for stream in rows for row in rows[stream]])
        twice = first_twice(ids)
        if twice is not None:
            raise BadRows(twice)
        if len(ids) > MOST_ROWS:
            raise BadRows(-1)
        # Streams without rows are left out, so that equal worlds keep the same.
        self._rows = {stream: tuple(sorted(rows[stream])) for stream in rows if rows[stream]}
        self._ids = tuple(ids)

    def __eq__(self, other):
        return isinstance(other, World) and self._rows == other._rows

    def __len__(self):
        return len(self._ids)

    def rows(self, stream):
        """The ascending list of the stream's tuples (moment, id, amount)."""
        if not is_name(stream):
            raise BadName(stream)
        return list(self._rows.get(stream, ()))


def is_rows(thing):
    """Tells whether the thing is a dict from names to rows of rows of a world."""
    if not isinstance(thing, dict):
        return False
    return all([is_name(stream) and is_row(rows) and are_rows(rows) for stream, rows in thing.items()])


def are_rows(things):
    """Tells whether all of the things are tuples (moment, id, amount)."""
    for thing in things:
        if not isinstance(thing, tuple) or len(thing) != 3:
            return False
        if not are_integers(thing) or not is_natural(thing[1]):
            return False
    return True


def first_twice(numbers):
    """The first of the ascending numbers that occurs twice, or None."""
    for at in range(1, len(numbers)):
        if numbers[at - 1] == numbers[at]:
            return numbers[at]
    return None


def world_of(journal, key):
    """The world of the rows of the journal that stand for this key."""
    if not isinstance(journal, Journal):
        raise BadJournal(journal)
    if not is_name(key):
        raise BadName(key)
    return World({stream: journal.rows(stream, key) for stream in journal.book.streams()})
