"""Needs: which rows may still be looked at for answers at the present."""

from asofhall.amounts import Count, Number, Total
from asofhall.answers import answered
from asofhall.books import check_streams
from asofhall.entries import arrival_of
from asofhall.errors import BadId, BadJournal, BadQuestion
from asofhall.goings import Standing, check_hearing, entries_to, first_free, known_behind
from asofhall.journals import Journal
from asofhall.kinds import is_integer, is_natural, is_row
from asofhall.moments import Last, Now, Shift, is_term

MOST_QUESTIONS = 6


def is_keepable(thing):
    """Tells whether the thing is a keepable question."""
    if isinstance(thing, Number):
        return is_chain(thing.term) and thing.stream not in thing.term.streams()
    if isinstance(thing, (Count, Total)):
        return is_moved_now(thing.first) and is_moved_now(thing.last)
    return is_term(thing) and is_chain(thing)


def is_chain(term):
    """Tells whether the term is a chain."""
    if isinstance(term, Last):
        return is_chain(term.term) and term.stream not in term.term.streams()
    if isinstance(term, Shift):
        return is_chain(term.term)
    return isinstance(term, Now)


def is_moved_now(term):
    """Tells whether the term is Now() or a shift of it."""
    return isinstance(term, Now) or (isinstance(term, Shift) and isinstance(term.term, Now))


def check_keepable(questions):
    """Raises BadQuestion if these are not 1 to 6 keepable questions."""
    if not is_row(questions) or not 1 <= len(questions) <= MOST_QUESTIONS:
        raise BadQuestion(questions)
    for thing in questions:
        if not is_keepable(thing):
            raise BadQuestion(thing)


def check_asked(questions, book):
    """Raises BadName for the least stream of the questions that the book does not have."""
    check_streams([stream for question in questions for stream in question.streams()], book)


def check_needs(questions, journal, h):
    """Raises the error of the first of the three that is not what it must be."""
    check_keepable(questions)
    if not isinstance(journal, Journal):
        raise BadJournal(journal)
    check_hearing(journal, h)
    check_asked(questions, journal.book)


def needed(questions, journal, h):
    """The ascending list of the ids of the rows of all keys that are needed at h."""
    check_needs(questions, journal, h)
    return needed_of(questions, journal.book, journal.known(), h)


def needed_of(questions, book, known, h):
    """The ascending list of the ids of the needed ones of the rows that are known."""
    ids = []
    for key in keys_of(known):
        rows = Standing(known, key)
        for question in questions:
            ids.extend(needed_by(question, book, rows, h))
    return sorted(set(ids))


def keys_of(known):
    """The ascending list of the keys of the rows that stand."""
    return sorted(set([row[1] for row in known.values() if row]))


def needed_by(question, book, rows, h):
    """The ids of the rows of one key that one question needs at h, in any order."""
    _, ids = answered(question, rows, h)
    if isinstance(question, (Count, Total)):
        for row in rows.rows(question.stream):
            if counted_at(question, book, row, h) is not None:
                ids.append(row[1])
        return ids
    looks = looks_of(question)
    for at, reach in enumerate(reaches(looks, book, rows, h)):
        stream, _ = looks[at]
        for row, low, high in spans(book, rows, stream, h):
            if touches(reach, low, high):
                ids.append(row[1])
    return ids


# A Count or Total from now + c to now + e.


def counted_at(question, book, row, h):
    """A moment from h on at which the row can be counted, or None.

    At this moment the row is counted where it is or, if its moment is not
    settled, it is counted if it was moved to h + 1.
    """
    low, high = moved_by(question.first), moved_by(question.last)
    moment = row[0]
    if low >= high:
        return None
    if moment >= first_free(book, question.stream, h):
        # Its new moment, h + 1, is counted at a moment that is not ahead of it.
        return h + 1 - min(high, 0) if low < 0 else None
    if moment - low - 1 < h:
        return None
    return max(h, moment - high)


def moved_by(term):
    """By how much a shift of Now() is moved."""
    if isinstance(term, Shift):
        return term.amount
    return 0


# The looks of a chain, the innermost one first, each as (stream, c): it looks
# from c behind the row that the look ahead of it has found; the first one from
# c behind the asked moment. Number looks as Last does.


def looks_of(question):
    """The looks of a chain or a Number."""
    if isinstance(question, Number):
        looks, more = looks_and_shift(question.term)
        return [*looks, (question.stream, more)]
    looks, _ = looks_and_shift(question)
    return looks


def looks_and_shift(term):
    """The looks of a chain, and by how much it is moved behind the last one."""
    if isinstance(term, Last):
        looks, more = looks_and_shift(term.term)
        return [*looks, (term.stream, more)], 0
    if isinstance(term, Shift):
        looks, _ = looks_and_shift(term.term)
        return looks, term.amount
    return [], 0


# What a look can look from, in all goings on at all moments above h, is a tuple
# (points, low): some moments, and all from low on. (Rows that are not settled
# can come and go as they like, and the asked moment may be as high as is
# needed; so a look finds each moment that is not settled, and each settled
# row from whose moment on, but ahead of the next settled one, it can look.)


def reaches(looks, book, rows, h):
    """For each of the looks, what it can look from."""
    found = []
    points, low = [], h + 1
    for stream, more in looks:
        reach = ([point + more for point in points], low + more)
        found.append(reach)
        low = first_free(book, stream, h)
        found_here = [row[0] for row, first, last in spans(book, rows, stream, h) if touches(reach, first, last)]
        points = [moment for moment in found_here if moment < low]
    return found


def spans(book, rows, stream, h):
    """The rows that a look may find, each with the first and last moment (None: endless) to look from."""
    free = first_free(book, stream, h)
    settled = [row for row in rows.rows(stream) if row[0] < free]
    found = [(row, row[0], None) for row in rows.rows(stream) if row[0] >= free]
    for at, row in enumerate(settled):
        if at + 1 == len(settled):
            found.append((row, row[0], None))
        elif settled[at + 1][0] > row[0]:
            found.append((row, row[0], settled[at + 1][0] - 1))
    return found


def touches(reach, low, high):
    """Tells whether something from low to high (None: endless) can be looked from."""
    points, free = reach
    if high is None or free <= high:
        return True
    return any([low <= point <= high for point in points])


def why_needed(questions, journal, h, number):
    """Entries, the index of a question and a moment that show why the row is needed, or None."""
    check_why(questions, journal, h, number)
    known = journal.known()
    if not known.get(number):
        return None
    key = known[number][1]
    rows = Standing(known, key)
    for index, question in enumerate(questions):
        _, seen = answered(question, rows, h)
        if number in seen:
            return [], index, h
    for index, question in enumerate(questions):
        shown = shown_need(question, journal, h, key, number)
        if shown is not None:
            entries, now = shown
            return entries, index, now
    return None


def check_why(questions, journal, h, number):
    """Raises the error of the first of the four that is not what it must be."""
    check_needs(questions, journal, h)
    if not is_natural(number):
        raise BadId(number)


def shown_need(question, journal, h, key, number):
    """Entries and a moment above h that show why the question needs the row, or None."""
    rows = Standing(journal.known(), key)
    if isinstance(question, (Count, Total)):
        return shown_count(question, journal, rows, h, number)
    looks = looks_of(question)
    for at, (stream, _) in enumerate(looks):
        for row, low, high in spans(journal.book, rows, stream, h):
            if row[1] == number:
                return shown_look(journal, rows, h, key, (looks[:at + 1], low, high), number)
    return None


def shown_count(question, journal, rows, h, number):
    """Entries and a moment that show that a Count or Total needs the row, or None."""
    for row in rows.rows(question.stream):
        now = counted_at(question, journal.book, row, h)
        if row[1] == number and now is not None:
            if row[0] < first_free(journal.book, question.stream, h):
                return [], now
            return [("fix", number, h + 1, row[2], h + 1)], now
    return None


def shown_look(journal, rows, h, key, aim, number):
    """Entries and a moment that show that the last one of the looks finds the row, or None.

    aim has the looks up to it, and the first and the last moment to look from.
    """
    looks, low, high = aim
    found = reaches(looks, journal.book, rows, h)
    if not touches(found[-1], low, high):
        return None
    added = []
    # From each look it is gone inwards to the one from whose row it looks.
    for at in range(len(looks) - 1, 0, -1):
        more = looks[at][1]
        stream = looks[at - 1][0]
        low, high = low - more, None if high is None else high - more
        free = max(low, first_free(journal.book, stream, h))
        if high is None or free <= high:
            added.append((stream, free, 0))
            low, high = free, None
        else:
            low, high = settled_span(journal.book, rows, stream, h, (low, high, found[at - 1]))
    now = max([low - looks[0][1], h + 1, *[moment for _, moment, _ in added]])
    return entries_to(journal, key, h, number, added), now


def settled_span(book, rows, stream, h, aim):
    """From where to where a settled row between low and high is looked from, one that can be."""
    low, high, reach = aim
    for row, first, last in spans(book, rows, stream, h):
        if low <= row[0] <= high and touches(reach, first, last):
            return first, last
    return None


def is_why(questions, journal, h, number, thing):
    """Tells whether the thing shows why the row with this id is needed."""
    check_why(questions, journal, h, number)
    if not isinstance(thing, tuple) or len(thing) != 3:
        return False
    entries, index, now = thing
    if not is_integer(index) or not 0 <= index < len(questions) or not is_integer(now) or now < h:
        return False
    row = journal.known().get(number)
    known = known_behind(journal, h, entries)
    if not row or known is None:
        return False
    if len(entries) > 0 and now < arrival_of(entries[-1]):
        return False
    _, seen = answered(questions[index], Standing(known, row[1]), now)
    return number in seen
