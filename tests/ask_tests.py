"""What the tests of bulletins, servers and halls share: asks, wrong ones and random ones."""

from asofhall.amounts import Amount, Count, Gap, Number, Total
from asofhall.errors import BadAsk
from asofhall.finals import final
from asofhall.journals import Journal
from asofhall.moments import Last, Term
from asofhall.waits import enough_wait
from tests import models
from tests.helpers import fails, not_integers, not_made_of, not_names, not_questions
from tests.pair_tests import A, B, NOW

AA = Last("a", A)
AAA = Last("a", AA)


def row(number, stream, moment, arrival=None, amount=0, key="k"):
    return ("row", number, stream, key, moment, amount, moment if arrival is None else arrival)


def choices(many):
    """A term with so many choices and no look."""
    term = NOW
    for _ in range(many):
        term = term.later(NOW)
    return term


def deep(many):
    """A term of this depth without looks and choices."""
    term = NOW
    for _ in range(many - 1):
        term = term | NOW
    return term


# Questions just small enough to be asked, and those that are just too large.
SMALL = [
    NOW, AA, A | B, choices(3), A.later(B), A.later(NOW).earlier(NOW), Number("b", A), Number("a", choices(2)), deep(12),
    Number("a", deep(11)), Count("b", AA, AA), Total("a", choices(3), AA), Gap(AA, A.later(B)), Gap(deep(12), deep(12))]
LARGE = [
    AAA, AA | B, choices(4), A.later(B).later(NOW), A.later(NOW).later(NOW).later(NOW), Number("b", AA), Number("a", choices(3)),
    Number("b", A.later(NOW).later(NOW)), Number("a", deep(12)), Count("b", AAA, NOW), Count("b", NOW, AAA), Total("a", choices(4), A),
    Total("a", A, choices(4)), Gap(AAA, NOW), Gap(NOW, AA | B)]


def ask_errors(test, call):
    """Asserts the errors of a call that is given asks alone."""
    good = (NOW, "k", 0)
    for thing in [*not_made_of(dict), {}, {"a": good, "B": good}, {"": good}, {None: good}, {True: good, "a": None}, {("a",): good},
                  {"abcdefghi": good}, {chr(97 + at): good for at in range(13)}, {chr(97 + at): None for at in range(13)}]:
        fails(test, BadAsk, {"name": ""}, call, thing)
    for thing in [*not_made_of(tuple), (), (NOW,), (NOW, "k"), (NOW, "k", 0, 0), [NOW, "k", 0]]:
        fails(test, BadAsk, {"name": "b"}, call, {"c": None, "b": thing, "a": good})
    for thing in not_questions():
        fails(test, BadAsk, {"name": "a"}, call, {"a": (thing, "k", 0)})
    for thing in not_names():
        fails(test, BadAsk, {"name": "zz"}, call, {"zz": (NOW, thing, 0), "a": good})
    for thing in not_integers():
        fails(test, BadAsk, {"name": "a"}, call, {"zz": (), "a": (NOW, "k", thing)})
    for question in LARGE:
        fails(test, BadAsk, {"name": "b"}, call, {"a": (SMALL[1], "k", 0), "c": (AAA, "k", 0), "b": (question, "k", 0)})


def random_asks(rng, most):
    """Asks about the streams a and b and the keys k and l."""
    asks = {}
    for name in rng.sample(["one", "two", "three", "four", "five", "six"], rng.randrange(1, most + 1)):
        question = models.random_question(rng, 3)
        while not is_small(question):
            question = models.random_question(rng, 3)
        asks[name] = (question, rng.choice("kkl"), rng.randrange(0, 14))
    return asks


def is_small(question):
    terms = [Last(question.stream, question.term)] if isinstance(question, Number) else [question]
    if isinstance(question, Amount) and not isinstance(question, Number):
        terms = [question.first, question.last]
    return all(term.looks <= 2 and term.choices <= 3 for term in terms)


def random_ticks(rng, most, last):
    """Some moments from -1 up to the last."""
    return sorted(rng.sample(range(-1, last + 1), rng.randrange(most + 1)))


def told_model(book, entries, asks, ticks):
    """The bulletins after the words of the document; what is final is taken from the program."""
    found, last = [], {}
    for h in ticks:
        heard = [entry for entry in entries if entry[-1] <= h]
        for name in sorted(asks):
            question, key, now = asks[name]
            if now > h or (name in last and last[name][4] == "final"):
                continue
            answer = models.answer_behind(question, heard, key, now)
            if isinstance(question, (Term, Number)):
                is_final = final(question, Journal(book, heard), key, now, h)
            else:
                wait = enough_wait(question, book)
                is_final = wait is not None and h >= now + wait
            word = "final" if is_final else "open"
            if name not in last:
                deed = "told"
            elif last[name][3] != answer:
                deed = "mended"
            elif word == "final":
                deed = "closed"
            else:
                continue
            last[name] = (deed, h, name, answer, word)
            found.append(last[name])
    return found
