"""What the tests of verdicts and of leads share: pairs, errors, all small worlds."""

import itertools

from asofhall.errors import BadTerm, NoPaper, TooMany
from asofhall.moments import Last, Next, Now
from asofhall.worlds import World
from tests.helpers import fails, not_terms, odd_values, picture
from tests.models import random_term

NOW = Now()
A = Last("a", NOW)
B = Last("b", NOW)
AFTER = Next("a", NOW)


def deep_thing(many):
    """A thing that is nested deeply, alike to a paper."""
    thing = ("ring", (0,))
    for _ in range(many):
        thing = ("cases", (thing, thing))
    return thing


def things():
    """Things to be judged, none of which is right for any pair that is asked here."""
    deep = ()
    for _ in range(100000):
        deep = [deep]
    return [
        *odd_values(), deep, (deep, deep), ("ring", deep), ("cases", deep), ("cases", (deep, deep)), ("ring", (0,) * 100000),
        deep_thing(100000), (deep_thing(1000), 0), (World({}), deep), (World({}), True), (World({}), 0.0), (World({}), None),
        [World({}), 0], (World({}),), (World({}), 0, 0), (0, World({})), ({}, 0), ("cases", ()), ("cases", ("fine",)),
        ("cases", [("fine",), ("fine",)]), ("ring", ()), ("ring", (-1,)), ("ring", (True,)), ("ring", [0]), ("ring", 0),
        ("ring",), ("ring", (0,), 0), ["fine"], ("fine", 0), "fine", ("beside",), ("beside", 1, 0, ()),
        ("beside", 1, 0, (("fine",),)), ("beside", True, False, (("ring", (0,)),)), (b"fine",), ("x" * 10 ** 6,),
    ]


def random_pair(rng, depth):
    """Two terms that may be asked together."""
    while True:
        one = random_term(rng, depth)
        other = random_term(rng, depth) if rng.randrange(4) else one
        if rng.randrange(6) == 0:
            other = (one | one, one.later(one), one.earlier(one))[rng.randrange(3)]
        if one.looks + other.looks <= 4 and one.choices + other.choices <= 6:
            return one, other


def small_worlds(streams, reach, most):
    """The rows of all worlds with at most so many rows, each near to moment 0."""
    places = list(itertools.product(streams, range(-reach, reach + 1)))
    for many in range(most + 1):
        for chosen in itertools.combinations(places, many):
            rows = {stream: [] for stream in streams}
            for number, (stream, moment) in enumerate(chosen):
                rows[stream].append((moment, number, 0))
            yield rows


def pair_errors(test, call):
    """Asserts the errors of a call with two terms: both ahead of all that the call is given behind them."""
    looks = Last("a", A).later(Last("a", A))
    many = [(looks, A), (A, looks), (Last("a", A), Last("b", Last("c", B))), (Last("a", looks), NOW)]
    choices = NOW
    for _ in range(4):
        choices = choices.later(NOW)
    many += [(choices, choices), (choices.earlier(NOW), NOW.later(A)), (Last("a", choices), AFTER.earlier(NOW))]
    for thing in not_terms():
        fails(test, BadTerm, {"value": thing}, call, thing, NOW)
        fails(test, BadTerm, {"value": thing}, call, NOW, thing)
        fails(test, BadTerm, {"value": thing}, call, thing, None)
        fails(test, BadTerm, {"value": thing}, call, looks.later(looks), thing)
    for one, other in many:
        test.assertTrue(one.looks + other.looks == 5 or one.choices + other.choices >= 7)
        fails(test, TooMany, {}, call, one, other)
    # Just as many as there may be.
    for one, other in [(looks, NOW), (NOW, looks), (Last("a", A), AFTER | B), (choices, NOW.later(A)), (choices, NOW)]:
        before = picture([one, other])
        try:
            call(one, other)
        except NoPaper:
            pass
        test.assertEqual(picture([one, other]), before)
