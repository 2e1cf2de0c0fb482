"""Answers of questions in worlds, and the rows that are looked at for them."""

from asofhall.amounts import Count, Gap, Number, Total, is_amount, is_question
from asofhall.errors import BadMoment, BadQuestion, BadTerm, BadWorld
from asofhall.kinds import is_integer
from asofhall.moments import Earlier, Either, Last, Later, Next, Now, Shift, is_look, is_term
from asofhall.worlds import World

# Where the moment and the amount stand in a row (moment, id, amount).
MOMENT = 0
AMOUNT = 2


def value(question, world, now):
    """The answer of the question in the world at now, or None."""
    check(question, world, now)
    answer, _ = answered(question, world, now)
    return answer


def support(question, world, now):
    """The ascending list of the ids of the rows that are looked at for the answer."""
    check(question, world, now)
    _, seen = answered(question, world, now)
    return sorted(set(seen))


def check(question, world, now):
    """Raises the error of the first of the three that is not what it must be."""
    if not is_question(question):
        raise BadQuestion(question)
    if not isinstance(world, World):
        raise BadWorld(world)
    if not is_integer(now):
        raise BadMoment(now)


# Each function below returns the answer, or None, and the list of the ids of
# the rows that were looked at; an id may stand there several times.


def answered(question, world, now):
    """Goes through a question."""
    if is_term(question):
        return followed(question, world, now)
    if isinstance(question, Number):
        return looked(question, world, now, AMOUNT)
    return told_between(question, world, now)


def followed(term, world, now):
    """Goes through a term."""
    if isinstance(term, Now):
        return now, []
    if is_look(term):
        return looked(term, world, now, MOMENT)
    if isinstance(term, Shift):
        return moved(term, world, now)
    if isinstance(term, Either):
        return followed_either(term, world, now)
    return followed_both(term, world, now)


def moved(shift, world, now):
    """Goes through a shift."""
    answer, seen = followed(shift.term, world, now)
    if answer is None:
        return None, seen
    return answer + shift.amount, seen


def looked(question, world, now, place):
    """Goes through a Last, a Next or a Number, whose answer has this place in the row."""
    answer, seen = followed(question.term, world, now)
    if answer is None:
        return None, seen
    if isinstance(question, Next):
        row = next_row(world, question.stream, answer)
    else:
        row = last_row(world, question.stream, answer)
    if row is None:
        return None, seen
    return row[place], [*seen, row[1]]


def followed_either(term, world, now):
    """Goes through one | other: other only if one has no answer."""
    first, seen = followed(term.first, world, now)
    if first is not None:
        return first, seen
    second, more = followed(term.second, world, now)
    return second, [*seen, *more]


def followed_both(term, world, now):
    """Goes through later or earlier: other only if one has an answer."""
    first, seen = followed(term.first, world, now)
    if first is None:
        return None, seen
    second, more = followed(term.second, world, now)
    seen = [*seen, *more]
    if second is None:
        return None, seen
    if isinstance(term, Later):
        return max(first, second), seen
    return min(first, second), seen


def told_between(question, world, now):
    """Goes through a Count, a Total or a Gap."""
    first, seen = followed(question.first, world, now)
    if first is None:
        return None, seen
    last, more = followed(question.last, world, now)
    seen = [*seen, *more]
    if last is None:
        return None, seen
    if isinstance(question, Gap):
        return last - first, seen
    rows = [row for row in world.rows(question.stream) if first < row[0] <= last]
    counted = [row[1] for row in rows]
    seen = [*seen, *counted]
    if isinstance(question, Count):
        return len(rows), seen
    return sum([row[2] for row in rows]), seen


def last_row(world, stream, moment):
    """The last row of the stream at or before the moment, or None."""
    rows = [row for row in world.rows(stream) if row[0] <= moment]
    if len(rows) == 0:
        return None
    return rows[-1]


def next_row(world, stream, moment):
    """The first row of the stream at or after the moment, or None."""
    rows = [row for row in world.rows(stream) if row[0] >= moment]
    if len(rows) == 0:
        return None
    return rows[0]


def seen_from(question, term):
    """The question in which each Now is replaced by the term."""
    if not is_question(question):
        raise BadQuestion(question)
    if not is_term(term):
        raise BadTerm(term)
    if not is_amount(question):
        return term_from(question, term)
    return amount_from(question, term)


def amount_from(question, term):
    """The amount question in which each Now is replaced."""
    if isinstance(question, Number):
        return Number(question.stream, term_from(question.term, term))
    first = term_from(question.first, term)
    last = term_from(question.last, term)
    if isinstance(question, Count):
        return Count(question.stream, first, last)
    if isinstance(question, Total):
        return Total(question.stream, first, last)
    return Gap(first, last)


def term_from(inside, term):
    """The term inside, in which each Now is replaced."""
    if isinstance(inside, Now):
        return term
    if isinstance(inside, Last):
        return Last(inside.stream, term_from(inside.term, term))
    if isinstance(inside, Next):
        return Next(inside.stream, term_from(inside.term, term))
    if isinstance(inside, Shift):
        return term_from(inside.term, term) + inside.amount
    first = term_from(inside.first, term)
    second = term_from(inside.second, term)
    if isinstance(inside, Either):
        return first | second
    if isinstance(inside, Earlier):
        return first.earlier(second)
    return first.later(second)
