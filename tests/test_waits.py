"""Waits: settled terms, least and enough waits, papers of waits [32] to [36]."""

import random
import unittest

from asofhall.amounts import Count, Gap, Number, Total
from asofhall.answers import value
from asofhall.books import Book
from asofhall.errors import BadBook, BadName, BadQuestion, BadTerm, BadWait, NoPaper, TooMany
from asofhall.leads import lead
from asofhall.moments import Last, Next
from asofhall.waits import enough_wait, is_unsettled, is_wait_paper, least_wait, unsettled, wait_paper
from asofhall.worlds import World
from tests import models
from tests.helpers import (
    errors_in_order, fails, not_integers, not_made_of, not_questions, not_terms, odd_values, picture)
from tests.pair_tests import A, AFTER, B, NOW, things
from tests.paper_models import build, judge, spoiled, wait_place

LATES = {"a": 3, "b": 0, "c": 10 ** 6}
BOOK = Book(LATES)
C = Last("c", NOW)
LEAST = [
    (NOW, 0), (NOW - 7, 0), (NOW.later(NOW + 9), 0), (A, 3), (B, 0), (C, 10 ** 6), (A + 5, 3), (Last("a", NOW - 2), 1),
    (Last("a", NOW - 3), 0), (Last("a", NOW - 4), 0), (Last("a", NOW - 50), 0), (Last("a", NOW + 4), 7), (Last("b", NOW + 4), 4),
    (AFTER, None), (Next("b", NOW - 9), None), (Next("a", A), 3), (Next("a", Last("b", NOW)), None), (Last("b", A), 3),
    (Last("a", B), 3), (Last("c", A), 10 ** 6), (A | NOW, 3), (NOW | AFTER, 0), (A | AFTER, None), (A.later(NOW), 3),
    (A.later(C), 10 ** 6), (A.earlier(B), 3), ((Next("b", A) | NOW).earlier(NOW), 3), ((AFTER | NOW).earlier(NOW), 0),
    ((AFTER | NOW).earlier(NOW - 2), 0), (Last("a", B + 2), 5), (Last("b", A + 2), 3), (Last("b", A + 4), 4),
    (Last("a", NOW - 1).later(NOW - 3), 2), (Last("b", NOW + 10 ** 30), 10 ** 30), (Last("a", NOW - 10 ** 30), 0),
    (Next("a", NOW - 4) | NOW, None), (Last("b", Last("b", NOW)), 0), (Number("a", NOW), 3), (Number("b", A), 3),
    (Number("c", A), 10 ** 6), (Number("a", NOW - 2), 1), (Number("a", NOW - 9), 0), (Number("a", NOW + 4), 7),
    (Number("b", AFTER), None), (Number("b", NOW + 10 ** 20), 10 ** 20), (Number("a", B), 3), (Number("b", NOW), 0),
]
ENOUGH = [
    (Gap(A, NOW), 3), (Gap(NOW, NOW), 0), (Gap(B, C), 10 ** 6), (Gap(AFTER, NOW), None), (Gap(NOW, AFTER), None),
    (Count("a", NOW - 5, NOW), 3), (Count("b", NOW - 5, NOW), 0), (Count("a", NOW - 5, NOW - 1), 2), (Count("a", NOW, NOW - 9), 0),
    (Count("a", NOW, NOW + 10 ** 9), 10 ** 9 + 3), (Count("b", A, NOW), 3), (Count("c", A, B), 10 ** 6), (Count("a", B, B), 3),
    (Count("b", NOW, AFTER), None), (Count("b", AFTER, NOW), None), (Total("a", NOW - 5, NOW - 2), 1), (Total("b", C, NOW), 10 ** 6),
    (Total("b", NOW, Next("b", NOW)), None), (Total("c", NOW, NOW - 10 ** 6), 0), (Total("c", NOW, NOW - 10 ** 6 + 1), 1),
    (Total("a", NOW, (AFTER | NOW).earlier(NOW - 2)), 1),
]
# With 2 looks and 3 choices a term may be asked, with more of one of both not.
LARGE = [Last("a", A.later(B)), A | A | A, A.later(B).earlier(NOW), NOW.later(NOW).later(NOW.later(NOW)).later(NOW)]


def fitting(rng, lates, k):
    """The rows of two worlds that fit at k."""
    known, other = {}, {}
    number = 0
    for stream, late in lates.items():
        known[stream], other[stream] = [], []
        for _ in range(rng.randrange(4)):
            moment, number = k - rng.randrange(-2, 9), number + 1
            if moment + late <= k or rng.randrange(2):
                other[stream].append((moment, number, 0))
            if moment + late <= k or (rng.randrange(2) and moment <= k):
                known[stream].append((moment, number, 0))
    return known, other


class Waits(unittest.TestCase):
    def shown(self, term, book, wait, flag):
        """Asserts that the term is settled for the wait just if the flag says so."""
        before = picture([term, book])
        found = unsettled(term, book, wait)
        if flag:
            self.assertIsNone(found)
            self.assertIs(is_wait_paper(term, book, wait, wait_paper(term, book, wait)), True)
        else:
            known, other, now, k = found
            self.assertIs(type(found), tuple)
            self.assertEqual([type(part) for part in found], [World, World, int, int])
            self.assertLessEqual(max(len(known), len(other)), 4)
            self.assertTrue(fits(known, other, book, k) and k >= now + wait)
            self.assertNotEqual(value(term, known, now), value(term, other, now))
            self.assertIs(is_unsettled(term, book, wait, found), True)
            fails(self, NoPaper, {}, wait_paper, term, book, wait)
        self.assertEqual(picture([term, book]), before)

    def test_least_waits_by_hand(self):
        for question, least in LEAST:
            self.assertEqual(least_wait(question, BOOK), least, question.spelling)
            self.assertEqual(enough_wait(question, BOOK), least)
            self.assertIn(type(least_wait(question, BOOK)), (int, type(None)))
            if not isinstance(question, Number):
                for wait in (0, 1, 2, 3, 4, 10 ** 6, 10 ** 40) if least is None else (least - 1, least, least + 1, least + 10 ** 9):
                    if wait >= 0:
                        self.shown(question, BOOK, wait, least is not None and wait >= least)

    def test_enough_waits_by_hand(self):
        for question, enough in ENOUGH:
            self.assertEqual(enough_wait(question, BOOK), enough, question.spelling)

    def test_lateness_of_zero_and_of_a_million(self):
        for late in (0, 1, 10 ** 6):
            book = Book({"a": late})
            self.assertEqual(least_wait(A, book), late)
            self.assertEqual(least_wait(Last("a", A + 1), book), late + 1)
            self.assertEqual(least_wait(Last("a", NOW + 1), book), late + 1)
            self.assertEqual(least_wait(Number("a", NOW), book), late)
            self.assertIsNone(least_wait(AFTER, book))

    def test_random_terms(self):
        rng = random.Random(51)
        told = {}
        for _ in range(150):
            term, book, lates = random_asked(rng)
            least = least_wait(term, book)
            told[least is None or least > 0] = told.get(least is None or least > 0, 0) + 1
            for wait in {0, 1, 5, 100, least or 0, max(0, (least or 0) - 1)}:
                self.shown(term, book, wait, least is not None and wait >= least)
            for _ in range(60):
                wait, now = rng.randrange(12), rng.randrange(-3, 4)
                k = now + wait + rng.randrange(2)
                known, other = fitting(rng, lates, k)
                same = models.answer(term, known, now) == models.answer(term, other, now)
                self.assertTrue(same or least is None or wait < least)
                if k >= now + wait:
                    shown = (World(known), World(other), now, k)
                    self.assertIs(is_unsettled(term, book, wait, shown), not same)
        self.assertGreater(min(told.values()), 20)

    def test_numbers_and_amount_questions_follow_their_rules(self):
        rng = random.Random(52)
        for _ in range(100):
            term, book, lates = random_asked(rng, 1, 2)
            stream = rng.choice("ab")
            look = Last(stream, term)
            word, most = lead(look, NOW)
            waits = [least_wait(look, book), None if word == "endless" else most + lates[stream]]
            self.assertEqual(least_wait(Number(stream, term), book), None if None in waits else max(waits))
            other = random_asked(rng)[0]
            waits = [least_wait(term, book), least_wait(other, book)]
            self.assertEqual(enough_wait(Gap(term, other), book), None if None in waits else max(waits))
            word, most = lead(other, NOW)
            waits.append(None if word == "endless" else most + lates[stream])
            for kind in (Count, Total):
                self.assertEqual(enough_wait(kind(stream, term, other), book), None if None in waits else max(waits))


def random_asked(rng, looks=2, choices=3):
    """A term that may be asked, a book and its latenesses."""
    lates = {"a": rng.choice((0, 1, 2, 7)), "b": rng.choice((0, 1, 5))}
    while True:
        term = models.random_term(rng, 5)
        if term.looks <= looks and term.choices <= choices:
            return term, Book(lates), lates


def fits(known, other, book, k):
    """Tells whether the worlds fit at k, by the words of the document."""
    for stream in book.streams():
        settled = [[row for row in world.rows(stream) if row[0] + book.late(stream) <= k] for world in (known, other)]
        if settled[0] != settled[1] or any(moment > k for moment, _, _ in known.rows(stream)):
            return False
    return all(sum(len(world.rows(one)) for one in book.streams()) == len(world) for world in (known, other))


class JudgedWorlds(unittest.TestCase):
    def test_by_hand(self):
        row, other = (5, 0, 1), (5, 1, 1)
        empty, one = World({}), World({"a": [row]})
        b_row = World({"b": [row]})
        for known, final, now, k, wait, flag in [
                (empty, one, 5, 5, 0, True), (empty, one, 5, 7, 0, True), (empty, one, 5, 8, 0, False), (empty, one, 5, 7, 2, True),
                (empty, one, 5, 7, 3, False), (one, empty, 5, 5, 0, True), (one, empty, 5, 4, 0, False), (one, empty, 6, 5, 0, False),
                (one, empty, 6, 6, 0, True), (one, one, 5, 5, 0, False), (one, World({"a": [other]}), 5, 5, 0, False),
                (one, World({"a": [row], "b": [other]}), 5, 5, 0, False), (empty, World({"a": [row], "z": [other]}), 5, 5, 0, False),
                (World({"z": [row]}), one, 5, 5, 0, False), (empty, World({"a": [row, (1, 1, 1)]}), 5, 5, 0, False),
                (World({"a": [(1, 1, 1)]}), World({"a": [row, (1, 1, 1)]}), 5, 5, 0, True),
                (World({"a": [(1, 1, 2)]}), World({"a": [row, (1, 1, 1)]}), 5, 5, 0, False),
                (World({"a": [(1, 2, 1)]}), World({"a": [row, (1, 1, 1)]}), 5, 5, 0, False),
                (World({"a": [(1, 1, 1), (6, 7, 0)]}), World({"a": [row, (1, 1, 1)]}), 5, 5, 0, False),
                (World({"a": [(1, 1, 1)], "b": [(6, 7, 0)]}), World({"a": [row, (1, 1, 1)]}), 5, 5, 0, False),
                (b_row, World({"a": [(4, 3, 0)], "b": [row]}), 5, 5, 0, True), (b_row, World({"a": [(4, 3, 0)]}), 5, 5, 0, False)]:
            self.assertIs(is_unsettled(A, BOOK, wait, (known, final, now, k)), flag, (now, k, wait))
        many = World({"a": [(5, at, 0) for at in range(400)]})
        self.assertIs(is_unsettled(A, BOOK, 0, (empty, many, 5, 5)), True)
        self.assertIs(is_unsettled(A, BOOK, 0, (empty, one, 5, True)), False)
        self.assertIs(is_unsettled(A, BOOK, 0, (empty, one, False, 5)), False)
        self.assertIs(is_unsettled(A, BOOK, 0, [empty, one, 5, 5]), False)
        self.assertIs(is_unsettled(A, BOOK, 0, (empty, one, 5)), False)
        self.assertIs(is_unsettled(A, BOOK, 0, (empty, one, 5, 5, 5)), False)
        for thing in odd_values():
            right = [empty, one, 5, 5]
            for at in range(4):
                if type(thing) is not type(right[at]):
                    self.assertIs(is_unsettled(A, BOOK, 0, (*right[:at], thing, *right[at + 1:])), False)

    def test_things_of_any_kind_and_size(self):
        for thing in things():
            for term, wait in [(A, 0), (A, 3), (AFTER, 5), (NOW, 0)]:
                self.assertIs(is_unsettled(term, BOOK, wait, thing), False)
            for term, wait in [(A, 3), (A, 2), (A | B, 3)]:
                self.assertIs(is_wait_paper(term, BOOK, wait, thing), False)


class Papers(unittest.TestCase):
    def test_by_hand(self):
        def ring(*indexes):
            return ("ring", indexes)

        # Where the known world has no row, the other one has none, too: a new
        # settled row (2) would be in both, and one that is coming too late.
        none = ("cases", (("fine",), ("beside", 2, 0, (ring(2, 3),)), ring(0, 1, 2)))
        # Where a settled row (2) is found first, it is found then: it is in both,
        # and another settled one (3) would be, too.
        same = ("cases", (ring(4), ring(4)))
        more = ("cases", (("beside", 3, 0, (ring(6, 5), ring(6, 4))), ("beside", 2, 1, (ring(6, 5), ring(6, 2)))))
        found = ("cases", (("beside", 2, 1, (ring(2, 3),)), same, more, ring(0, 3, 4)))
        # With a lateness of 0 no row is known that is not settled.
        known = ring(1, 2)
        thing = ("cases", (none, found, known))
        self.assertTrue(judge(wait_place(B, BOOK, 0), thing))
        self.assertIs(is_wait_paper(B, BOOK, 0, thing), True)
        for wrong in [("cases", (none, found)), ("cases", (none, found, ring(1))), ("cases", (found, none, known)),
                      ("cases", (none, found, ring(2, 3))), ("cases", (none, known, known))]:
            self.assertIs(is_wait_paper(B, BOOK, 0, wrong), False)
        self.assertIs(is_wait_paper(A, BOOK, 0, thing), False)

    def test_a_known_row_may_be_as_old_as_its_stream_is_late_less_one(self):
        # The facts of a known row alone are a ring for a lateness of 0 only.
        for late, flag in [(0, True), (1, False), (2, False)]:
            book = Book({"a": late})
            head, (none, found, _) = wait_paper(A, book, late)
            thing = (head, (none, found, ("ring", (1, 2))))
            self.assertIs(is_wait_paper(A, book, late, thing), flag)
            self.assertIs(judge(wait_place(A, book, late), thing), flag)

    def test_against_the_model(self):
        rng = random.Random(53)
        for _ in range(120):
            term, book, _ = random_asked(rng)
            least = least_wait(term, book)
            wait = rng.randrange(3) if least is None else max(0, least + rng.randrange(-1, 3))
            place = wait_place(term, book, wait)
            if least is None or wait < least:
                self.assertIs(is_wait_paper(term, book, wait, ("fine",)), False)
                continue
            for thing in (build(place, rng), wait_paper(term, book, wait)):
                self.assertTrue(judge(place, thing))
                self.assertIs(is_wait_paper(term, book, wait, thing), True)
                for _ in range(10):
                    wrong = spoiled(thing, rng)
                    self.assertIs(is_wait_paper(term, book, wait, wrong), judge(place, wrong))

    def test_no_paper_for_what_is_not_settled(self):
        rng = random.Random(54)
        for term, wait in [(A, 2), (AFTER, 3), (B | A, 2)]:
            self.assertIsNone(build(wait_place(term, BOOK, wait), rng))
            fails(self, NoPaper, {}, wait_paper, term, BOOK, wait)

    def test_a_paper_of_another_wait_is_none(self):
        paper = wait_paper(A, BOOK, 3)
        for wait in range(6):
            self.assertEqual(is_wait_paper(A, BOOK, wait, paper), judge(wait_place(A, BOOK, wait), paper))
        self.assertIs(is_wait_paper(A, BOOK, 2, paper), False)
        self.assertIs(is_wait_paper(Last("c", NOW), BOOK, 3, paper), False)


class Wrong(unittest.TestCase):
    def test_questions(self):
        for thing in not_questions():
            for call in (least_wait, enough_wait):
                fails(self, BadQuestion, {"value": thing}, call, thing, None)
        for question in (Gap(NOW, NOW), Count("a", NOW, NOW), Total("a", NOW, NOW)):
            fails(self, BadQuestion, {"value": question}, least_wait, question, None)
            enough_wait(question, BOOK)

    def test_books(self):
        for thing in not_made_of(Book):
            for question in (A, Number("a", NOW), LARGE[0], Last("zz", NOW)):
                fails(self, BadBook, {"value": thing}, least_wait, question, thing)
            for question in (Gap(NOW, A), Count("zz", NOW, NOW), Total("a", LARGE[0], NOW)):
                fails(self, BadBook, {"value": thing}, enough_wait, question, thing)

    def test_sizes(self):
        for term in LARGE:
            for question in (term, Number("a", term), Number("zz", term), Last("zz", term) if term.looks < 12 else term):
                fails(self, TooMany, {}, least_wait, question, BOOK)
            for question in (term, Gap(term, NOW), Gap(NOW, term), Count("zz", NOW, term), Total("a", term, NOW), Number("a", term)):
                fails(self, TooMany, {}, enough_wait, question, BOOK)
        # The Last of a Number counts, and may be larger than a term may be.
        deep = NOW
        while deep.depth < 12:
            deep = deep | NOW
        for term in (Last("a", B), A.later(NOW).later(NOW), deep):
            fails(self, TooMany, {}, least_wait, Number("a", term), BOOK)
            fails(self, TooMany, {}, enough_wait, Number("a", term), BOOK)
            least_wait(term, BOOK)
        least_wait(Number("a", A.later(NOW)), BOOK)
        least_wait(Number("a", NOW.later(NOW).later(NOW)), BOOK)

    def test_streams(self):
        for question, stream in [(Last("zz", NOW), "zz"), (Last("zz", Last("d", NOW)), "d"), (Last("a", Last("d", NOW)), "d"),
                                 (Number("zz", A), "zz"), (Number("d", Last("zz", NOW)), "d")]:
            fails(self, BadName, {"value": stream}, least_wait, question, BOOK)
            fails(self, BadName, {"value": stream}, enough_wait, question, BOOK)
        for question, stream in [(Count("zz", A, Last("d", NOW)), "d"), (Total("zz", A, NOW), "zz"), (Gap(A, Last("d", NOW)), "d")]:
            fails(self, BadName, {"value": stream}, enough_wait, question, BOOK)

    def test_which_error_comes_first(self):
        for call, good in [(unsettled, (A, BOOK, 3)), (wait_paper, (A, BOOK, 3)),
                           (is_unsettled, (A, BOOK, 3, None)), (is_wait_paper, (A, BOOK, 3, None))]:
            for thing in not_terms()[::7]:
                errors_in_order(self, call, good, [
                    (0, thing, BadTerm, {"value": thing}), (1, LATES, BadBook, {"value": LATES}), (0, LARGE[0], TooMany, {}),
                    (0, Last("zz", NOW), BadName, {"value": "zz"}), (2, -1, BadWait, {"value": -1})])
            for thing in not_terms():
                fails(self, BadTerm, {"value": thing}, call, thing, *good[1:])
            for thing in [*not_integers(), -1, -10 ** 30]:
                fails(self, BadWait, {"value": thing}, call, good[0], good[1], thing, *good[3:])
        fails(self, BadWait, {"value": -1}, wait_paper, AFTER, BOOK, -1)


if __name__ == "__main__":
    unittest.main()
