"""Waits: from which moment of knowing on an answer is settled, whatever may come."""

from asofhall.amounts import Gap, Number, is_question, terms_of
from asofhall.answers import value
from asofhall.books import Book, check_streams
from asofhall.cases import KNOWING, KNOWN_WORLD, OTHER_WORLD, first_case
from asofhall.errors import BadBook, BadQuestion, BadTerm, BadWait, NoPaper, TooMany
from asofhall.kinds import is_integer, is_natural
from asofhall.leads import lead
from asofhall.moments import Last, Now, is_term
from asofhall.pairs import world_with
from asofhall.papers import ENDLESS, NEVER, closed, farthest, is_closed, is_tuple_of
from asofhall.steps import steps_of
from asofhall.worlds import World

MOST_LOOKS = 2
MOST_CHOICES = 3


def least_wait(question, book):
    """The least wait from which on the answer is settled, or None."""
    if not is_term(question) and not isinstance(question, Number):
        raise BadQuestion(question)
    check_known(question, book)
    return least_of(question, book)


def enough_wait(question, book):
    """A wait from which on the answer is settled, or None."""
    if not is_question(question):
        raise BadQuestion(question)
    check_known(question, book)
    if is_term(question) or isinstance(question, Number):
        return least_of(question, book)
    waits = [least_of(term, book) for term in terms_of(question)]
    if not isinstance(question, Gap):
        waits.append(wait_behind(question.last, book.late(question.stream)))
    return greatest_wait(waits)


def check_known(question, book):
    """Raises the error of a question that cannot be asked of the book."""
    if not isinstance(book, Book):
        raise BadBook(book)
    check_sizes(question)
    check_streams(question.streams(), book)


def asked_terms(question):
    """The terms whose answers make that of the question; for a Number its Last."""
    if is_term(question):
        return (question,)
    if isinstance(question, Number):
        return (Last(question.stream, question.term),)
    return terms_of(question)


def check_sizes(question):
    """Raises TooMany if one of the terms that are asked has too many looks or choices."""
    for term in asked_terms(question):
        if term.looks > MOST_LOOKS or term.choices > MOST_CHOICES:
            raise TooMany()


def least_of(question, book):
    """The least wait of a term or a Number, or None."""
    if isinstance(question, Number):
        look = Last(question.stream, question.term)
        return greatest_wait([least_of(look, book), wait_behind(look, book.late(question.stream))])
    # The greatest value of the moment of knowing minus the asked one is looked
    # for, with answers that differ.
    aim = [("answer", (KNOWING, 0)), ("answer", (0, 0)), ("end",)]
    most = farthest([*two_goings(question, book), *aim], case_of_wait(0))
    if most == ENDLESS:
        return None
    if most == NEVER:
        return 0
    return most[1] + 1


def wait_behind(term, late):
    """The wait till all moments up to the term are settled, or None; below 0 no wait is needed."""
    most = lead(term, Now())
    if most == ENDLESS:
        return None
    if most == NEVER:
        return 0
    return most[1] + late


def greatest_wait(waits):
    """The greatest of the waits, or None if one of them is None."""
    if None in waits:
        return None
    return max(waits)


def two_goings(term, book):
    """The steps of a term in both worlds, at which the answers differ."""
    known = {stream: ("look", KNOWN_WORLD, book.late(stream)) for stream in term.streams()}
    other = {stream: ("look", OTHER_WORLD, book.late(stream)) for stream in term.streams()}
    return [*steps_of(term, known), *steps_of(term, other), ("differ",)]


def case_of_wait(wait):
    """The case at the top of a paper of a wait."""
    return first_case(KNOWING + 1, ((0, KNOWING, -wait),))


def check_wait(term, book, wait):
    """Raises the error of the first of the three that is not what it must be."""
    if not is_term(term):
        raise BadTerm(term)
    check_known(term, book)
    if not is_natural(wait):
        raise BadWait(wait)


def unsettled(term, book, wait):
    """Two worlds, an asked moment and one of knowing for which the answers differ, or None."""
    check_wait(term, book, wait)
    _, left = closed([*two_goings(term, book), ("end",)], case_of_wait(wait))
    if left is None:
        return None
    case, values = left
    return world_with(case, values, KNOWN_WORLD), world_with(case, values, OTHER_WORLD), values[0], values[KNOWING]


def is_unsettled(term, book, wait, thing):
    """Tells whether the thing is what unsettled may return."""
    check_wait(term, book, wait)
    if not is_tuple_of(thing, 4):
        return False
    known, other, now, k = thing
    if not isinstance(known, World) or not isinstance(other, World) or not is_integer(now) or not is_integer(k):
        return False
    return k >= now + wait and do_fit(known, other, book, k) and value(term, known, now) != value(term, other, now)


def do_fit(known, other, book, k):
    """Tells whether both worlds fit at the moment of knowing k."""
    for stream in book.streams():
        last = k - book.late(stream)
        rows = known.rows(stream)
        if len(rows) > 0 and rows[-1][0] > k:
            return False
        if [row for row in rows if row[0] <= last] != [row for row in other.rows(stream) if row[0] <= last]:
            return False
    return has_only(known, book) and has_only(other, book)


def has_only(world, book):
    """Tells whether the world has rows of streams of the book alone."""
    return len(world) == sum([len(world.rows(stream)) for stream in book.streams()])


def wait_paper(term, book, wait):
    """A paper that the term is settled for the wait."""
    check_wait(term, book, wait)
    paper, _ = closed([*two_goings(term, book), ("end",)], case_of_wait(wait))
    if paper is None:
        raise NoPaper()
    return paper


def is_wait_paper(term, book, wait, thing):
    """Tells whether the thing is a paper that the term is settled for the wait."""
    check_wait(term, book, wait)
    return is_closed([*two_goings(term, book), ("end",)], case_of_wait(wait), thing)
