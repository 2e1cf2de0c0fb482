"""Moment terms: questions whose answer at an asked moment is a moment or none.

Each term keeps its spelling: a flat tuple of words, names and amounts that
tells it apart from every term that is not equal to it. (Each word tells what
follows it, so a flat tuple is enough; and it may be a key of a dict, however
deep the term is.)
"""

from asofhall.errors import BadMoment, BadName, BadTerm, TooMany
from asofhall.kinds import is_integer, is_name

MOST_DEPTH = 12
MOST_PARTS = 40
MOST_LOOKS = 12


class Term:
    """The base of the moment terms. A term never changes."""

    def __eq__(self, other):
        return is_term(other) and self.spelling == other.spelling

    def __add__(self, other):
        if not is_integer(other):
            raise BadMoment(other)
        return shifted(self, other)

    def __sub__(self, other):
        if not is_integer(other):
            raise BadMoment(other)
        return shifted(self, -other)

    def __or__(self, other):
        if not is_term(other):
            raise BadTerm(other)
        return Either(self, other)

    def later(self, other):
        """The term whose answer is the greater one of both answers."""
        if not is_term(other):
            raise BadTerm(other)
        return Later(self, other)

    def earlier(self, other):
        """The term whose answer is the smaller one of both answers."""
        if not is_term(other):
            raise BadTerm(other)
        return Earlier(self, other)

    def streams(self):
        """The ascending list of the streams that occur in the term."""
        return sorted(set([part.stream for part in parts_of(self) if is_look(part)]))


class Now(Term):
    """The asked moment."""

    def __init__(self):
        self.spelling = ("now",)
        self.depth, self.parts, self.looks, self.choices = sizes((), 0, 0)


class Last(Term):
    """The moment of the last row of the stream at or before that of the term."""

    def __init__(self, stream, term):
        self.stream = checked_stream(stream)
        self.term = checked_term(term)
        self.spelling = ("last", stream, *term.spelling)
        self.depth, self.parts, self.looks, self.choices = sizes((term,), 1, 1)


class Next(Term):
    """The moment of the first row of the stream at or after that of the term."""

    def __init__(self, stream, term):
        self.stream = checked_stream(stream)
        self.term = checked_term(term)
        self.spelling = ("next", stream, *term.spelling)
        self.depth, self.parts, self.looks, self.choices = sizes((term,), 1, 1)


class Shift(Term):
    """The moment of the term plus the amount; made by + and - only."""

    def __init__(self, term, amount):
        self.term = term
        self.amount = amount
        self.spelling = ("shift", amount, *term.spelling)
        self.depth, self.parts, self.looks, self.choices = sizes((term,), 0, 0)


class Either(Term):
    """The moment of the first term or, if it has none, that of the second; made by | only."""

    def __init__(self, first, second):
        self.first = first
        self.second = second
        self.spelling = ("either", *first.spelling, *second.spelling)
        self.depth, self.parts, self.looks, self.choices = sizes((first, second), 0, 0)


class Later(Term):
    """The greater one of both moments; made by later only."""

    def __init__(self, first, second):
        self.first = first
        self.second = second
        self.spelling = ("later", *first.spelling, *second.spelling)
        self.depth, self.parts, self.looks, self.choices = sizes((first, second), 0, 1)


class Earlier(Term):
    """The smaller one of both moments; made by earlier only."""

    def __init__(self, first, second):
        self.first = first
        self.second = second
        self.spelling = ("earlier", *first.spelling, *second.spelling)
        self.depth, self.parts, self.looks, self.choices = sizes((first, second), 0, 1)


def is_term(thing):
    """Tells whether the thing is a moment term."""
    return isinstance(thing, (Now, Last, Next, Shift, Either, Later, Earlier))


def is_look(thing):
    """Tells whether the thing is a look."""
    return isinstance(thing, (Last, Next))


def checked_stream(stream):
    """The stream itself, if it is a name."""
    if not is_name(stream):
        raise BadName(stream)
    return stream


def checked_term(term):
    """The term itself, if it is one."""
    if not is_term(term):
        raise BadTerm(term)
    return term


def sizes(children, looks, choices):
    """The depth, parts, looks and choices of a term with these children.

    looks and choices are those of the term alone.
    """
    depth = 1 + max([child.depth for child in children], default=0)
    parts = 1 + sum([child.parts for child in children])
    looks = looks + sum([child.looks for child in children])
    choices = choices + sum([child.choices for child in children])
    if depth > MOST_DEPTH or parts > MOST_PARTS or looks > MOST_LOOKS:
        raise TooMany()
    return depth, parts, looks, choices


def shifted(term, amount):
    """The term plus the amount; shifts do not stand directly inside each other."""
    if amount == 0:
        return term
    inner, total = term, amount
    if isinstance(term, Shift):
        inner, total = term.term, term.amount + amount
    if total == 0:
        return inner
    return Shift(inner, total)


def children_of(term):
    """The terms that stand directly in the term, in order."""
    if isinstance(term, Now):
        return ()
    if isinstance(term, (Last, Next, Shift)):
        return (term.term,)
    return (term.first, term.second)


def parts_of(term):
    """All terms that stand in the term, children ahead of itself, each place once."""
    found = []
    for child in children_of(term):
        found = [*found, *parts_of(child)]
    return [*found, term]
