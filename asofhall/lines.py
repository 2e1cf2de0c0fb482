"""Lines: entries and journals written as texts, and read again."""

from asofhall.books import Book
from asofhall.entries import FIELDS, is_entry
from asofhall.errors import BadBook, BadEntry, BadJournal, BadLine, TooMany
from asofhall.forms import check_form
from asofhall.journals import Journal
from asofhall.kinds import DIGITS, LETTERS, LONGEST_NAME, NOT_ZERO

LONGEST_LINE = 60
MOST_READINGS = 50


def write_line(form, entry):
    """The line of an entry."""
    check_form(form)
    if not is_entry(entry):
        raise BadEntry(0)
    word, *values = entry
    told = {field: str(worth) for field, worth in zip(FIELDS[word], values)}
    return "".join([told[text] if kind == "field" else text for kind, text in form.shape(word)])


def readings(form, text):
    """The list of all readings of a text: rows, then fixes, then gones, each ascending."""
    check_form(form)
    if not is_line(text):
        raise BadLine(0)
    found = all_readings(form, text)
    if found is None:
        raise TooMany()
    return found


def read_line(form, text):
    """The only reading of a text."""
    check_form(form)
    if not is_line(text):
        raise BadLine(0)
    found = all_readings(form, text)
    if found is None or len(found) > 1:
        raise BadLine(2)
    if len(found) == 0:
        raise BadLine(0)
    return found[0]


def write_journal(form, journal):
    """The lines of the entries of a journal, with a line feed between each two."""
    check_form(form)
    if not isinstance(journal, Journal):
        raise BadJournal(journal)
    return "\n".join([write_line(form, entry) for entry in journal.entries])


def read_journal(form, book, text):
    """The journal that has these lines."""
    check_form(form)
    if not isinstance(book, Book):
        raise BadBook(book)
    if not isinstance(text, str):
        raise BadLine(0)
    entries = []
    for at, line in enumerate(text.split("\n") if text != "" else []):
        found = all_readings(form, line) if is_line(line) else []
        if found is None or len(found) != 1:
            raise BadLine(at + 1)
        entries.append(found[0])
    return Journal(book, entries)


def is_line(thing):
    """Tells whether the thing is a text that may be a line."""
    return isinstance(thing, str) and len(thing) <= LONGEST_LINE


def all_readings(form, text):
    """All readings of a text in their order, or None if there are too many."""
    befores = {word: starts_in(form.shape(word), text) for word in FIELDS}
    if sum([ways_to_end(starts, text) for starts in befores.values()]) > MOST_READINGS:
        return None
    found = []
    for word, starts in befores.items():
        found.extend(sorted(read_as(word, form.shape(word), starts, text)))
    return found


# Where a text may be parted between the pieces of a shape is told by a list of
# dicts, one for each piece: from each place at which the piece may end to the
# list of the places at which it may begin then, if all ahead of it are read.


def starts_in(shape, text):
    """Where the text may be parted between the pieces of the shape."""
    found = []
    reached = [0]
    for piece in shape:
        starts = {}
        for at in reached:
            for end in ends_of(piece, text, at):
                starts.setdefault(end, []).append(at)
        found.append(starts)
        reached = list(starts)
    return found


def ends_of(piece, text, at):
    """The places at which a piece may end that begins here."""
    kind, word = piece
    if kind == "mark":
        return [at + len(word)] if text[at:at + len(word)] == word else []
    if word == "stream" or word == "key":
        end = run_end(text, at, LETTERS)
        return list(range(at + 1, min(end, at + LONGEST_NAME) + 1))
    if text[at:at + 1] == "0":
        return [at + 1]
    first = at
    if text[at:at + 1] == "-" and word != "id":
        first = at + 1
    if first == len(text) or text[first] not in NOT_ZERO:
        return []
    return list(range(first + 1, run_end(text, first, DIGITS) + 1))


def run_end(text, at, letters):
    """The end of the run of these letters that begins here; it may be empty."""
    end = at
    while end < len(text) and text[end] in letters:
        end += 1
    return end


def ways_to_end(parted, text):
    """In how many ways the whole text is parted."""
    ways = {0: 1}
    for starts in parted:
        ways = {end: sum([ways[at] for at in starts[end]]) for end in starts}
    return ways.get(len(text), 0)


def read_as(word, shape, parted, text):
    """The readings of the text as entries of this kind, in any order."""
    # Read from the end on, what is read leads to the beginning everywhere.
    found = [(len(text), {})]
    for (kind, field), starts in reversed(list(zip(shape, parted))):
        longer = []
        for end, told in found:
            for at in starts.get(end, []):
                part = {field: text[at:end]} if kind == "field" else {}
                longer.append((at, {**told, **part}))
        found = longer
    return [(word, *[worth_of(field, told[field]) for field in FIELDS[word]]) for _, told in found]


def worth_of(field, text):
    """The value of a field that is written as this text."""
    if field == "stream" or field == "key":
        return text
    return int(text)
