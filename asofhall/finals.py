"""Finals: whether an answer from a journal stays, in all that may still be heard."""

from asofhall.amounts import Number
from asofhall.answers import answered
from asofhall.cases import first_case
from asofhall.errors import BadJournal, BadMoment, BadName, BadQuestion
from asofhall.goings import Standing, check_hearing, entries_to, first_free, known_behind
from asofhall.journals import Journal
from asofhall.kinds import is_integer, is_name
from asofhall.moments import is_term
from asofhall.papers import closed
from asofhall.steps import steps_of
from asofhall.waits import asked_terms, check_known


def final(question, journal, key, now, h):
    """Tells whether the answer is the same in every going on of the journal from h."""
    check_final(question, journal, key, now, h)
    return left_of(question, journal, key, now, h) is None


def changing(question, journal, key, now, h):
    """Entries behind which the answer is another one, or None."""
    check_final(question, journal, key, now, h)
    left = left_of(question, journal, key, now, h)
    if left is None:
        return None
    case, values = left
    # The amount is one that a Number does not tell now.
    amount = 0 if told_now(question, journal, key, now) == 1 else 1
    added = [(stream, values[row] - values[0] + now, amount) for row, stream, _ in case.found]
    return entries_to(journal, key, h, None, added)


def is_changing(question, journal, key, now, h, thing):
    """Tells whether the thing is a list of entries behind which the answer is another one."""
    check_final(question, journal, key, now, h)
    known = known_behind(journal, h, thing)
    if known is None:
        return False
    told, _ = answered(question, Standing(known, key), now)
    return told != told_now(question, journal, key, now)


def check_final(question, journal, key, now, h):
    """Raises the error of the first of the five that is not what it must be."""
    if not is_term(question) and not isinstance(question, Number):
        raise BadQuestion(question)
    if not isinstance(journal, Journal):
        raise BadJournal(journal)
    if not is_name(key):
        raise BadName(key)
    if not is_integer(now):
        raise BadMoment(now)
    check_hearing(journal, h)
    check_known(question, journal.book)


def told_now(question, journal, key, now):
    """The answer of the journal itself."""
    told, _ = answered(question, Standing(journal.known(), key), now)
    return told


def left_of(question, journal, key, now, h):
    """What is left of the case that the answer is another one than now, or None."""
    rows = Standing(journal.known(), key)
    settled = {}
    for stream in question.streams():
        free = first_free(journal.book, stream, h)
        # Of several rows at one moment, the one with the greatest id is told.
        settled[stream] = {row[0] - now: row[2] for row in rows.rows(stream) if row[0] < free}
    about = {}
    for stream in question.streams():
        about[stream] = ("seek", tuple(settled[stream]), first_free(journal.book, stream, h) - now)
    told, _ = answered(question, rows, now)
    if isinstance(question, Number):
        end = [("amount", settled[question.stream], told)]
    else:
        end = [("answer", None if told is None else (0, told - now)), ("differ",)]
    term = asked_terms(question)[0]
    _, left = closed([*steps_of(term, about), *end, ("end",)], first_case(1, ()))
    return left
