"""Amount questions: questions about the rows at and between moments.

As each term does, each amount question keeps its spelling.
"""

from asofhall.moments import checked_stream, checked_term, is_term


class Amount:
    """The base of the amount questions. An amount question never changes."""

    def __eq__(self, other):
        return is_amount(other) and self.spelling == other.spelling

    def streams(self):
        """The ascending list of the streams that occur in the question."""
        found = []
        if not isinstance(self, Gap):
            found = [self.stream]
        for term in terms_of(self):
            found = [*found, *term.streams()]
        return sorted(set(found))


class Number(Amount):
    """The amount of the last row of the stream at or before the term."""

    def __init__(self, stream, term):
        self.stream = checked_stream(stream)
        self.term = checked_term(term)
        self.spelling = ("number", stream, *term.spelling)


class Count(Amount):
    """How many rows of the stream are above first and at most at last."""

    def __init__(self, stream, first, last):
        self.stream = checked_stream(stream)
        self.first = checked_term(first)
        self.last = checked_term(last)
        self.spelling = ("count", stream, *first.spelling, *last.spelling)


class Total(Amount):
    """The sum of the amounts of the rows that Count counts."""

    def __init__(self, stream, first, last):
        self.stream = checked_stream(stream)
        self.first = checked_term(first)
        self.last = checked_term(last)
        self.spelling = ("total", stream, *first.spelling, *last.spelling)


class Gap(Amount):
    """How far last is behind first."""

    def __init__(self, first, last):
        self.first = checked_term(first)
        self.last = checked_term(last)
        self.spelling = ("gap", *first.spelling, *last.spelling)


def is_amount(thing):
    """Tells whether the thing is an amount question."""
    return isinstance(thing, (Number, Count, Total, Gap))


def terms_of(question):
    """The moment terms of an amount question, in order."""
    if isinstance(question, Number):
        return (question.term,)
    return (question.first, question.last)


def is_question(thing):
    """Tells whether the thing is a question."""
    return is_term(thing) or is_amount(thing)
