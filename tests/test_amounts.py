"""Point 17: making and comparing amount questions."""

import unittest

from asofhall.amounts import Amount, Count, Gap, Number, Total
from asofhall.errors import BadName, BadTerm
from asofhall.moments import Last, Next, Now, Term
from tests.helpers import fails, not_names, not_terms, odd_values

KINDS = (Number, Count, Total, Gap)


class Amounts(unittest.TestCase):
    def test_classes(self):
        for kind in KINDS:
            self.assertTrue(issubclass(kind, Amount))
            self.assertFalse(issubclass(kind, Term))
            for other in KINDS:
                self.assertTrue(kind is other or not issubclass(kind, other))

    def test_what_they_keep(self):
        first, last = Now() - 5, Last("b", Now())
        question = Number("ab", first)
        self.assertEqual((question.stream, question.term), ("ab", first))
        for kind in (Count, Total):
            question = kind("ab", first, last)
            self.assertEqual((question.stream, question.first, question.last), ("ab", first, last))
        question = Gap(first, last)
        self.assertEqual((question.first, question.last), (first, last))

    def test_wrong_streams(self):
        for stream in not_names():
            fails(self, BadName, {"value": stream}, Number, stream, Now())
            fails(self, BadName, {"value": stream}, Number, stream, 5)
            for kind in (Count, Total):
                fails(self, BadName, {"value": stream}, kind, stream, Now(), Now())
                fails(self, BadName, {"value": stream}, kind, stream, 5, 6)

    def test_wrong_terms(self):
        for thing in not_terms():
            fails(self, BadTerm, {"value": thing}, Number, "a", thing)
            for kind in (Count, Total):
                fails(self, BadTerm, {"value": thing}, kind, "a", thing, Now())
                fails(self, BadTerm, {"value": thing}, kind, "a", Now(), thing)
                fails(self, BadTerm, {"value": thing}, kind, "a", thing, "x")
            fails(self, BadTerm, {"value": thing}, Gap, thing, Now())
            fails(self, BadTerm, {"value": thing}, Gap, Now(), thing)
            fails(self, BadTerm, {"value": thing}, Gap, thing, "x")

    def test_terms_of_the_largest_size(self):
        term = Now()
        for _ in range(11):
            term = Last("a", term)
        self.assertEqual(Number("a", term).term.depth, 12)
        self.assertEqual(Count("a", term, term).streams(), ["a"])

    def test_streams(self):
        term, other = Last("c", Next("a", Now())), Last("a", Now())
        self.assertEqual(Number("b", term).streams(), ["a", "b", "c"])
        self.assertEqual(Number("a", Now()).streams(), ["a"])
        self.assertEqual(Count("d", term, other).streams(), ["a", "c", "d"])
        self.assertEqual(Total("c", other, term).streams(), ["a", "c"])
        self.assertEqual(Gap(Now(), term).streams(), ["a", "c"])
        self.assertEqual(Gap(Now(), Now() + 1).streams(), [])
        question = Number("b", term)
        question.streams().clear()
        self.assertEqual(question.streams(), ["a", "b", "c"])

    def test_equality(self):
        def questions():
            a, b = Last("a", Now()), Now() + 1
            return [
                Number("a", a), Number("b", a), Number("a", b), Number("a", Now()), Gap(a, b), Gap(b, a), Gap(a, a),
                Count("a", a, b), Count("a", b, a), Count("b", a, b), Total("a", a, b), Total("a", b, a), Gap(Now(), Now()),
                Count("a", Last("a", Now()), Now()), Count("a", Now(), Last("a", Now())), Number("last", Now()),
            ]

        for at, one in enumerate(questions()):
            for place, other in enumerate(questions()):
                self.assertIs(one == other, at == place)
                self.assertIs(one != other, at != place)

    def test_equal_to_nothing_else(self):
        things = [thing for thing in odd_values() if not isinstance(thing, Amount)]
        for question in (Number("a", Now()), Count("a", Now(), Now()), Gap(Now(), Now())):
            for thing in [*things, Last("a", Now()), Now()]:
                self.assertFalse(question == thing)
                self.assertFalse(thing == question)
