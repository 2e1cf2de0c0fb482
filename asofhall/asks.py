"""Asks: questions about keys at moments, and what is told about them at each tick."""

from asofhall.amounts import Number, is_question
from asofhall.answers import answered
from asofhall.books import check_streams
from asofhall.errors import BadAsk, TooMany
from asofhall.finals import final
from asofhall.goings import Standing
from asofhall.kinds import is_integer, is_name
from asofhall.moments import is_term
from asofhall.waits import check_sizes, enough_wait

MOST_ASKS = 12

# What an answer is called.
OPEN = "open"
FINAL = "final"


class Ask:
    """A question about a key at a moment. An ask never changes."""

    def __init__(self, question, key, now, book):
        self.question = question
        self.key = key
        self.now = now
        # Whether the answer of a term or a Number is final hangs on the
        # journal; any other answer is final from a wait on, if there is one.
        self.hangs = is_term(question) or isinstance(question, Number)
        self.wait = None if self.hangs else enough_wait(question, book)


def check_asks(asks):
    """Raises BadAsk if these are no asks."""
    if not isinstance(asks, dict) or not 1 <= len(asks) <= MOST_ASKS:
        raise BadAsk("")
    for name in asks:
        if not is_name(name):
            raise BadAsk("")
    for name in sorted(list(asks)):
        if not is_ask(asks[name]):
            raise BadAsk(name)


def is_ask(thing):
    """Tells whether the thing is a tuple of a question that may be asked, a name and an integer."""
    if not isinstance(thing, tuple) or len(thing) != 3:
        return False
    question, key, now = thing
    return is_question(question) and is_name(key) and is_integer(now) and is_askable(question)


def is_askable(question):
    """Tells whether the question is small enough to be asked."""
    try:
        check_sizes(question)
    except TooMany:
        return False
    return True


def asks_of(asks, book):
    """The asks by their names; BadName for the least stream that the book does not have."""
    streams = []
    for question, _, _ in asks.values():
        streams.extend(question.streams())
    check_streams(streams, book)
    return {name: Ask(question, key, now, book) for name, (question, key, now) in asks.items()}


def told_at(asks, journal, bulletins, h):
    """The bulletins at the tick h behind those so far; the journal is all that is heard by h."""
    last = last_of(bulletins)
    known = journal.known()
    found = []
    for name in sorted(list(asks)):
        ask = asks[name]
        if ask.now <= h and not is_closed(last.get(name)):
            answer, _ = answered(ask.question, Standing(known, ask.key), ask.now)
            word = FINAL if is_final(ask, journal, h) else OPEN
            deed = deed_of(last.get(name), answer, word)
            if deed is not None:
                found.append((deed, h, name, answer, word))
    return found


def last_of(bulletins):
    """The last one of the bulletins about each ask, by its name."""
    return {bulletin[2]: bulletin for bulletin in bulletins}


def is_closed(last):
    """Tells whether the ask about which this was told last is closed; last may be None."""
    return last is not None and last[4] == FINAL


def is_final(ask, journal, h):
    """Tells whether the answer of the ask is final at h."""
    if ask.hangs:
        return final(ask.question, journal, ask.key, ask.now, h)
    return ask.wait is not None and h >= ask.now + ask.wait


def deed_of(last, answer, word):
    """How an answer is told behind the last bulletin about the ask, which may be None; or None."""
    if last is None:
        return "told"
    if answer != last[3]:
        return "mended"
    if word == FINAL:
        return "closed"
    return None
