"""Wordings: questions written as texts, and texts read as questions."""

from asofhall.amounts import Count, Gap, Number, Total, is_question
from asofhall.errors import BadQuestion, BadText, TooMany
from asofhall.kinds import DIGITS, LETTERS, LONGEST_NAME, is_integer
from asofhall.moments import Either, Last, Later, Next, Now, Shift

LONGEST_NUMBER = 60

# What a text may go on with at a place, and what stands behind it. A word in
# capitals is what is read there, "=" and a word is what is made then; all else
# stands in the text as it is. At no place is one beginning that of another.
TERM = (
    ("now", ("=now",)),
    ("last ", ("NAME", " at ", "TERM", "=last")),
    ("next ", ("NAME", " at ", "TERM", "=next")),
    ("(", ("TERM", "REST")),
    ("later(", ("TERM", ", ", "TERM", ")", "=later")),
    ("earlier(", ("TERM", ", ", "TERM", ")", "=earlier")),
)
REST = (
    (" + ", ("NUMBER", ")", "=plus")),
    (" - ", ("NUMBER", ")", "=minus")),
    (" or ", ("TERM", ")", "=either")),
)
AMOUNT = (
    ("number ", ("NAME", " at ", "TERM", "=number")),
    ("count ", ("NAME", " from ", "TERM", " to ", "TERM", "=count")),
    ("total ", ("NAME", " from ", "TERM", " to ", "TERM", "=total")),
    ("gap from ", ("TERM", " to ", "TERM", "=gap")),
)


def worded(question):
    """The text of a question."""
    if not is_question(question):
        raise BadQuestion(question)
    if isinstance(question, Number):
        return f"number {question.stream} at {worded_term(question.term)}"
    if isinstance(question, Count):
        return f"count {question.stream} {worded_ends(question)}"
    if isinstance(question, Total):
        return f"total {question.stream} {worded_ends(question)}"
    if isinstance(question, Gap):
        return f"gap {worded_ends(question)}"
    return worded_term(question)


def worded_ends(question):
    """The text of the two terms of a Count, a Total or a Gap."""
    return f"from {worded_term(question.first)} to {worded_term(question.last)}"


def worded_term(term):
    """The text of a moment term."""
    if isinstance(term, Now):
        return "now"
    if isinstance(term, Last):
        return f"last {term.stream} at {worded_term(term.term)}"
    if isinstance(term, Next):
        return f"next {term.stream} at {worded_term(term.term)}"
    if isinstance(term, Shift):
        return worded_shift(term)
    first, second = worded_term(term.first), worded_term(term.second)
    if isinstance(term, Either):
        return f"({first} or {second})"
    if isinstance(term, Later):
        return f"later({first}, {second})"
    return f"earlier({first}, {second})"


def worded_shift(term):
    """The text of a shift."""
    if abs(term.amount) >= 10 ** 60:
        raise TooMany()
    if term.amount > 0:
        return f"({worded_term(term.term)} + {term.amount})"
    return f"({worded_term(term.term)} - {-term.amount})"


def read_question(text):
    """The question of a text."""
    if not isinstance(text, str):
        raise BadText(0)
    # All is read before anything is made: a text that does not follow the
    # rules is a BadText, however large the question would be.
    return made(read_words(text))


def read_words(text):
    """What the text has: names, numbers and what to make of those ahead."""
    found = []
    awaited = ["QUESTION"]
    at = 0
    while awaited:
        thing = awaited.pop()
        if thing[0] == "=":
            found.append(thing)
        elif thing == "NAME":
            end = run_end(text, at, LETTERS, LONGEST_NAME)
            found.append(text[at:end])
            at = end
        elif thing == "NUMBER":
            end = number_end(text, at)
            found.append(int(text[at:end]))
            at = end
        else:
            at, behind = chosen(text, at, goings_on(thing))
            awaited.extend(behind[::-1])
    if at < len(text):
        raise BadText(at)
    return found


def goings_on(thing):
    """What the text may go on with where this thing is awaited."""
    if thing == "QUESTION":
        return (*TERM, *AMOUNT)
    if thing == "TERM":
        return TERM
    if thing == "REST":
        return REST
    return ((thing, ()),)


def chosen(text, at, goings):
    """Where the one of the goings on that stands in the text ends, and what is behind it."""
    longest = 0
    for beginning, behind in goings:
        many = common(text, at, beginning)
        if many == len(beginning):
            return at + many, behind
        longest = max(longest, many)
    raise BadText(at + longest)


def common(text, at, beginning):
    """How many characters of the beginning stand in the text from here on."""
    many = 0
    for here, letter in zip(text[at:at + len(beginning)], beginning):
        if here != letter:
            return many
        many += 1
    return many


def run_end(text, at, letters, most):
    """The end of the run of at most so many of the letters that begins here."""
    end = at
    while end < len(text) and end < at + most and text[end] in letters:
        end += 1
    if end == at:
        raise BadText(at)
    return end


def number_end(text, at):
    """The end of the number that begins here; behind a leading 0 it has no more digits."""
    if text[at:at + 1] == "0":
        return at + 1
    return run_end(text, at, DIGITS, LONGEST_NUMBER)


# While a question is made, a term is held as the tuple of a term that is no
# shift and of the amount by which it is shifted, so that the amounts of shifts
# that stand directly inside each other are added before anything is made.


def made(words):
    """The question that is made of the words."""
    held = []
    for word in words:
        if is_integer(word) or word[0] != "=":
            held.append(word)
        elif word == "=now":
            held.append((Now(), 0))
        elif word == "=plus" or word == "=minus":
            amount = held.pop()
            term, so_far = held.pop()
            held.append((term, so_far + amount if word == "=plus" else so_far - amount))
        elif word == "=last" or word == "=next" or word == "=number":
            term = whole(held.pop())
            held.append(look_made(word, held.pop(), term))
        else:
            last = whole(held.pop())
            first = whole(held.pop())
            if word == "=count" or word == "=total":
                held.append(range_made(word, held.pop(), first, last))
            else:
                held.append(pair_made(word, first, last))
    question = held.pop()
    if isinstance(question, tuple):
        return whole(question)
    return question


def whole(pair):
    """The term that is held as a pair."""
    term, amount = pair
    return term + amount


def look_made(word, stream, term):
    """What is held for a look or a Number."""
    if word == "=last":
        return (Last(stream, term), 0)
    if word == "=next":
        return (Next(stream, term), 0)
    return Number(stream, term)


def range_made(word, stream, first, last):
    """The Count or Total."""
    if word == "=count":
        return Count(stream, first, last)
    return Total(stream, first, last)


def pair_made(word, first, second):
    """What is held for what is made of two terms alone."""
    if word == "=either":
        return (first | second, 0)
    if word == "=later":
        return (first.later(second), 0)
    if word == "=earlier":
        return (first.earlier(second), 0)
    return Gap(first, second)
