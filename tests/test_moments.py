"""Points 14 to 17 as far as they touch moment terms: making, sizes, equality."""

import random
import unittest

from asofhall.errors import BadMoment, BadName, BadTerm, TooMany
from asofhall.moments import Earlier, Either, Last, Later, Next, Now, Shift, Term
from tests.helpers import fails, not_integers, not_names, not_terms, odd_values, picture
from tests.models import random_term

KINDS = (Now, Last, Next, Shift, Either, Later, Earlier)


def told(term):
    """The sizes of a term."""
    return term.depth, term.parts, term.looks, term.choices


def counted(term):
    """The sizes of a term, counted anew from the terms that stand in it."""
    inner = [getattr(term, name) for name in ("term", "first", "second") if hasattr(term, name)]
    sizes = [counted(one) for one in inner]
    look = int(isinstance(term, (Last, Next)))
    choice = int(isinstance(term, (Last, Next, Later, Earlier)))
    return (1 + max([one[0] for one in sizes], default=0), 1 + sum(one[1] for one in sizes),
            look + sum(one[2] for one in sizes), choice + sum(one[3] for one in sizes))


def chain(depth):
    """A term of this depth without shifts or choices of two: looks inside each other."""
    term = Now()
    for _ in range(depth - 1):
        term = Last("a", term)
    return term


def shared(parts):
    """A term with this odd number of parts and no looks."""
    if parts == 1:
        return Now()
    left = (parts - 1) // 2
    left -= 1 - left % 2
    return shared(left) | shared(parts - 1 - left)


class Making(unittest.TestCase):
    def test_classes(self):
        for kind in KINDS:
            self.assertTrue(issubclass(kind, Term))
            for other in KINDS:
                self.assertTrue(kind is other or not issubclass(kind, other))

    def test_what_they_keep(self):
        inner = Now() + 3
        for kind in (Last, Next):
            look = kind("ab", inner)
            self.assertIs(type(look), kind)
            self.assertEqual((look.stream, look.term), ("ab", inner))
        self.assertIs(type(inner), Shift)
        self.assertEqual((inner.term, inner.amount), (Now(), 3))
        for kind, term in ((Either, inner | Now()), (Later, inner.later(Now())), (Earlier, inner.earlier(Now()))):
            self.assertIs(type(term), kind)
            self.assertEqual((term.first, term.second), (inner, Now()))

    def test_looks_of_wrong_values(self):
        for kind in (Last, Next):
            for stream in not_names():
                fails(self, BadName, {"value": stream}, kind, stream, Now())
                fails(self, BadName, {"value": stream}, kind, stream, 5)
            for term in not_terms():
                fails(self, BadTerm, {"value": term}, kind, "a", term)

    def test_operators_with_wrong_values(self):
        for first in (Now(), Last("a", Now()), chain(12)):
            for other in not_terms():
                fails(self, BadTerm, {"value": other}, first.later, other)
                fails(self, BadTerm, {"value": other}, first.earlier, other)
                before = picture(first), picture(other)
                with self.assertRaises(BadTerm) as caught:
                    first | other
                self.assertIs(caught.exception.value, other)
                self.assertEqual((picture(first), picture(other)), before)

    def test_streams(self):
        self.assertEqual(Now().streams(), [])
        term = (Last("b", Next("ab", Now() - 1)) | Last("b", Now())).later(Next("a", Now()).earlier(Now()))
        self.assertEqual(term.streams(), ["a", "ab", "b"])
        term.streams().clear()
        self.assertEqual(term.streams(), ["a", "ab", "b"])


class Shifts(unittest.TestCase):
    def test_the_term_itself(self):
        for term in (Now(), Now() + 2, Last("a", Now())):
            self.assertIs(term + 0, term)
            self.assertIs(term - 0, term)

    def test_minus_is_plus_the_negative(self):
        self.assertEqual((Now() - 5).amount, -5)
        self.assertEqual((Now() - -5).amount, 5)
        self.assertEqual(Now() - 5, Now() + -5)

    def test_shifts_of_shifts_are_joined(self):
        for a in range(-3, 4):
            for b in range(-3, 4):
                for term in (Last("a", Now()) + a + b, Last("a", Now()) + a - -b):
                    self.assertEqual(term, Last("a", Now()) + (a + b))
                    if a + b == 0:
                        self.assertIs(type(term), Last)
                    else:
                        self.assertIs(type(term.term), Last)
                        self.assertEqual((term.amount, term.depth), (a + b, 3))

    def test_shifts_that_cancel(self):
        inner = Last("a", Now() + 1)
        self.assertIs((inner + 4) - 4, inner)
        self.assertIs((inner - 10 ** 30) + 10 ** 30, inner)

    def test_amounts_far_beyond_64_bits(self):
        self.assertEqual((Now() + 2 ** 64 + 2 ** 64).amount, 2 ** 65)
        self.assertEqual((Now() - 10 ** 5000 - 1).amount, -10 ** 5000 - 1)

    def test_shifts_in_the_middle_stay(self):
        term = Last("a", Now() + 1) + 2
        self.assertEqual((term.amount, term.term.term.amount), (2, 1))

    def test_amounts_of_another_kind(self):
        for term in (Now(), Now() + 1, chain(12)):
            for amount in not_integers():
                for make in (lambda: term + amount, lambda: term - amount):
                    before = picture(amount)
                    with self.assertRaises(BadMoment) as caught:
                        make()
                    self.assertIs(caught.exception.value, amount)
                    self.assertEqual(picture(amount), before)

    def test_a_shift_of_a_shift_is_not_larger(self):
        term = chain(11) + 1
        self.assertEqual((term + 1).depth, 12)
        self.assertEqual((term - 1).depth, 11)


class Sizes(unittest.TestCase):
    def test_of_each_kind(self):
        now, look = Now(), Last("a", Now())
        self.assertEqual(told(now), (1, 1, 0, 0))
        self.assertEqual(told(look), (2, 2, 1, 1))
        self.assertEqual(told(Next("a", look)), (3, 3, 2, 2))
        self.assertEqual(told(look + 1), (3, 3, 1, 1))
        self.assertEqual(told(look | now), (3, 4, 1, 1))
        self.assertEqual(told(now | look), (3, 4, 1, 1))
        self.assertEqual(told(look.later(now)), (3, 4, 1, 2))
        self.assertEqual(told(now.earlier(look)), (3, 4, 1, 2))
        both = look | look
        self.assertEqual(told(both), (3, 5, 2, 2))
        self.assertEqual(told(both.later(both)), (4, 11, 4, 5))

    def test_random_terms(self):
        rng = random.Random(16)
        for _ in range(300):
            term = random_term(rng, 5)
            self.assertEqual(told(term), counted(term))

    def test_depth_12_and_13(self):
        term = Now()
        for _ in range(11):
            term = term | Now()
        self.assertEqual(term.depth, 12)
        self.assertEqual(chain(12).depth, 12)
        for call, args in ((Last, ("a", term)), (Next, ("a", term)), (term.later, (Now(),)), (Now().earlier, (term,))):
            fails(self, TooMany, {}, call, *args)
        for make in (lambda: term + 1, lambda: term - 1, lambda: term | Now(), lambda: Now() | term):
            self.assertRaises(TooMany, make)

    def test_40_and_41_parts(self):
        self.assertEqual(shared(39).parts, 39)
        term = shared(39) + 1
        self.assertEqual(term.parts, 40)
        fails(self, TooMany, {}, Last, "a", term)
        fails(self, TooMany, {}, shared(39).later, Now())
        self.assertRaises(TooMany, lambda: shared(20 - 1) | (shared(21)))
        self.assertEqual((shared(19) | (shared(19) + 1)).parts, 40)

    def test_12_and_13_looks(self):
        look = Last("a", Now())
        six = (look | look | look) | (look | look | look)
        self.assertEqual((six | six).looks, 12)
        self.assertLess((six | six).parts, 38)
        for make in (lambda: Next("b", six | six), lambda: six | (six | look), lambda: (six | look).later(six)):
            self.assertRaises(TooMany, make)
        self.assertEqual(((six | six) | Now()).looks, 12)

    def test_too_many_comes_behind_the_other_errors(self):
        term = chain(12)
        for kind in (Last, Next):
            fails(self, BadName, {"value": "A"}, kind, "A", term)
            fails(self, TooMany, {}, kind, "a", term)
        fails(self, BadTerm, {"value": None}, term.later, None)
        self.assertRaises(BadMoment, lambda: term + True)
        self.assertRaises(TooMany, lambda: term + 1)
        self.assertIs(term + 0, term)


class Equality(unittest.TestCase):
    def test_equal_terms(self):
        rng = random.Random(17)
        for _ in range(200):
            seed = rng.randrange(10 ** 6)
            one, other = random_term(random.Random(seed), 5), random_term(random.Random(seed), 5)
            self.assertTrue(one == other)
            self.assertFalse(one != other)

    def test_terms_that_differ(self):
        a, b = Last("a", Now()), Last("b", Now())
        terms = [
            Now(), Now() + 1, Now() + 2, Now() - 1, a, b, Next("a", Now()), Last("aa", Now()), Last("a", Now() + 1), a + 1,
            Last("a", a), Last("a", b), Last("b", a), a | b, b | a, a.later(b), b.later(a), a.earlier(b), a | a,
            (a | b) | a, a | (b | a), (a | b) + 1, (a + 1) | b, a | (b + 1), Last("last", Now()), Last("now", Now()),
        ]
        for at, one in enumerate(terms):
            for place, other in enumerate(terms):
                self.assertIs(one == other, at == place)
                self.assertIs(one != other, at != place)

    def test_equal_to_nothing_else(self):
        things = [thing for thing in odd_values() if not isinstance(thing, Term)]
        for term in (Now(), Now() + 1, Last("a", Now()), Now() | Now()):
            for thing in things:
                self.assertFalse(term == thing)
                self.assertTrue(term != thing)

    def test_operators_change_nothing(self):
        term, other = Last("a", Now() + 1), Next("b", Now())
        before = picture(term), picture(other)
        for _ in (term + 1, term - 1, term | other, term.later(other), term.earlier(other), term == other):
            self.assertEqual((picture(term), picture(other)), before)
