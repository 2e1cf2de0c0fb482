"""Entries of journals: what is one, which is good, what it makes of its row."""

from asofhall.kinds import are_integers, is_name, is_natural

# What is known of a row is (stream, key, moment, amount), or this once it was
# taken back: then it does not stand, but its id is still used.
TAKEN_BACK = ()

# What stands behind the word of an entry of each kind, in order.
FIELDS = {
    "row": ("id", "stream", "key", "moment", "amount", "arrival"),
    "fix": ("id", "moment", "amount", "arrival"),
    "gone": ("id", "arrival"),
}


def is_entry(thing):
    """Tells whether the thing is an entry; its stream may be any name."""
    if not isinstance(thing, tuple) or len(thing) < 3 or not is_natural(thing[1]):
        return False
    if thing[0] == "row":
        return len(thing) == 7 and is_name(thing[2]) and is_name(thing[3]) and are_integers(thing[4:])
    if thing[0] == "fix":
        return len(thing) == 5 and are_integers(thing[2:])
    return thing[0] == "gone" and len(thing) == 3 and are_integers(thing[2:])


def arrival_of(entry):
    """The arrival of an entry, which stands last in each kind."""
    return entry[-1]


def row_behind(book, entry, old):
    """What is known of the entry's row behind it, or None if it is not good.

    old is what was known of the row ahead of it, None if its id is not used.
    Whether the arrival is too low for the entry ahead is not looked at.
    """
    if entry[0] == "row":
        if old is not None or not book.has(entry[2]):
            return None
        return placed(book, entry[2:6], arrival_of(entry))
    if old is None or old == TAKEN_BACK:
        return None
    stream, key, moment, _ = old
    if arrival_of(entry) > moment + book.late(stream):
        return None
    if entry[0] == "gone":
        return TAKEN_BACK
    return placed(book, (stream, key, entry[2], entry[3]), arrival_of(entry))


def placed(book, row, arrival):
    """The row itself if a row at its moment may be heard at the arrival, or None."""
    stream, moment = row[0], row[2]
    if moment <= arrival <= moment + book.late(stream):
        return row
    return None


def walked(book, things):
    """Goes through things that shall be entries, up to the first bad one.

    Returns its index (None if all are good), and the dict from the ids that
    the entries ahead of it use to what is known of their rows.
    """
    known = {}
    latest = None
    for at, thing in enumerate(things):
        if not is_entry(thing) or (latest is not None and arrival_of(thing) < latest):
            return at, known
        row = row_behind(book, thing, known.get(thing[1]))
        if row is None:
            return at, known
        known[thing[1]] = row
        latest = arrival_of(thing)
    return None, known
