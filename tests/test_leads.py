"""Leads: by how much one term can be above another one [23] to [31]."""

import random
import unittest

from asofhall.answers import value
from asofhall.cases import first_case
from asofhall.errors import BadMoment, BadTerm, NoPaper, TooMany
from asofhall.leads import is_lead_paper, lead, lead_paper, reaching
from asofhall.moments import Last, Next
from asofhall.papers import farthest
from asofhall.worlds import World
from tests import models
from tests.helpers import fails, not_integers, picture
from tests.pair_tests import A, AFTER, B, NOW, pair_errors, random_pair, small_worlds, things

NEVER = ("never", None)
ENDLESS = ("endless", None)
LEADS = [
    (NOW, NOW, ("most", 0)), (NOW + 5, NOW - 10 ** 50, ("most", 10 ** 50 + 5)), (A, NOW, ("most", 0)), (NOW, A, ENDLESS),
    (AFTER, NOW, ENDLESS), (NOW, AFTER, ("most", 0)), (A, B, ENDLESS), (Last("a", NOW - 3), NOW, ("most", -3)),
    (Last("b", A - 7) + 2, A, ("most", -5)), (A, Last("a", NOW - 1), ENDLESS), (Last("a", NOW - 1), A, ("most", 0)),
    (Last("a", A - 1), A, ("most", -1)), (A, AFTER, ("most", 0)), (AFTER, A, ENDLESS), (NOW.earlier(A), A, ("most", 0)),
    (A.earlier(B), A, ("most", 0)), (A.later(B), A, ENDLESS), (A.later(B), NOW, ("most", 0)), (A | NOW, NOW, ("most", 0)),
    (A | NOW + 9, NOW, ("most", 9)), (A | B - 9, A | B, ("most", 0)), ((A - 9) | B, A | B, ("most", 0)),
    (Next("a", Last("a", NOW - 3) + 1), Last("a", NOW - 3), ENDLESS),
    (Next("a", Last("a", NOW) - 4), Last("a", NOW), ("most", 0)), (Next("a", NOW - 4), A, ENDLESS),
    (Last("a", NOW + 4), AFTER, ("most", 4)), (Last("a", NOW + 4), Next("a", NOW + 5), ("most", -1)),
    (Last("a", NOW + 4), A, ENDLESS), (Last("a", A + 4), A, ("most", 4)), (Next("b", A), Last("b", A + 6), ENDLESS),
    (Last("b", A + 6), Next("b", A), ("most", 6)),
    (NOW.later(NOW - 3), NOW.earlier(NOW - 3), ("most", 3)),
    (A.later(NOW), A.later(NOW) - 10 ** 100, ("most", 10 ** 100)),
    (Last("a", Next("a", NOW) - 1), NOW, ("most", -1)),
]
LEADS += [(Last("a", NOW.later(NOW + 1)).later(AFTER), AFTER, ("most", 1)), (Last("a", AFTER), NOW, ENDLESS)]


class Leads(unittest.TestCase):
    def checked(self, one, other):
        """Asserts that all that is told of the lead fits together; returns the lead."""
        before = picture([one, other])
        found = lead(one, other)
        self.assertIs(type(found), tuple)
        # Where each stream has a row at each moment, each term has an answer.
        self.assertNotEqual(found, NEVER)
        if found == ENDLESS:
            self.reaches_up_to(one, other, 10 ** 30, True)
            fails(self, NoPaper, {}, lead_paper, one, other, 10 ** 30)
        else:
            word, most = found
            self.assertEqual((word, type(most)), ("most", int))
            self.reaches_up_to(one, other, most, True)
            self.reaches_up_to(one, other, most - 10 ** 20, True)
            self.reaches_up_to(one, other, most + 1, False)
            fails(self, NoPaper, {}, lead_paper, one, other, most - 1)
            for n in (most, most + 1, most + 10 ** 20):
                self.assertIs(is_lead_paper(one, other, n, lead_paper(one, other, n)), True)
                self.assertIs(is_lead_paper(one, other, most - 1, lead_paper(one, other, n)), False)
        self.assertEqual(picture([one, other]), before)
        return found

    def reaches_up_to(self, one, other, n, flag):
        shown = reaching(one, other, n)
        if not flag:
            self.assertIsNone(shown)
            return
        self.assertIs(type(shown), tuple)
        world, now = shown
        self.assertEqual([type(world), type(now)], [World, int])
        self.assertLessEqual(len(world), 4)
        self.assertGreaterEqual(value(one, world, now) - value(other, world, now), n)

    def test_by_hand(self):
        for one, other, found in LEADS:
            self.assertEqual(self.checked(one, other), found, (one.spelling, other.spelling))

    def test_never(self):
        # No two terms come here; so the steps of one that has no answer are made by hand.
        for steps in ([("answer", None), ("need",), ("end",)], [("answer", (0, 0)), ("lack",), ("end",)]):
            self.assertEqual(farthest(steps, first_case(1, ())), NEVER)
        steps = [("answer", (0, 3)), ("need",), ("answer", (0, 0)), ("need",), ("end",)]
        self.assertEqual(farthest(steps, first_case(1, ())), ("most", 3))
        self.assertEqual(farthest(steps, first_case(1, ((0, 0, -1),))), NEVER)

    def test_random_pairs(self):
        rng = random.Random(41)
        told = {}
        for _ in range(400):
            found = self.checked(*random_pair(rng, 5))
            told[found[0]] = told.get(found[0], 0) + 1
        self.assertGreater(min(told["most"], told["endless"]), 50)

    def test_in_all_small_worlds(self):
        rng = random.Random(42)
        worlds = list(small_worlds("ab", 2, 3))
        for _ in range(40):
            one, other = random_pair(rng, 4)
            found = lead(one, other)
            for rows in worlds:
                first, second = models.answer(one, rows, 0), models.answer(other, rows, 0)
                if first is not None and second is not None:
                    self.assertTrue(found == ENDLESS or first - second <= found[1])


class Wrong(unittest.TestCase):
    def test_errors_of_terms(self):
        pair_errors(self, lead)
        pair_errors(self, lambda one, other: reaching(one, other, 0))
        pair_errors(self, lambda one, other: lead_paper(one, other, -5))
        pair_errors(self, lambda one, other: is_lead_paper(one, other, 0, ("ring", (0,))))

    def test_errors_of_numbers(self):
        five = Last("a", Last("b", A))
        for n in not_integers():
            for call, more in [(reaching, ()), (lead_paper, ()), (is_lead_paper, (("ring", (0,)),))]:
                fails(self, BadTerm, {"value": None}, call, None, five, n, *more)
                fails(self, BadTerm, {"value": 7}, call, five, 7, n, *more)
                fails(self, TooMany, {}, call, five, five, n, *more)
                fails(self, BadMoment, {"value": n}, call, A, NOW, n, *more)

    def test_no_paper_comes_last(self):
        fails(self, BadMoment, {"value": None}, lead_paper, NOW, A, None)
        fails(self, NoPaper, {}, lead_paper, NOW, A, 0)
        fails(self, NoPaper, {}, lead_paper, NOW, NOW, -1)

    def test_things_of_any_kind_and_size(self):
        for thing in things():
            for one, other, n in [(A, NOW, 0), (NOW, A, 5), (A, A, 0), (B, A, -1)]:
                self.assertIs(is_lead_paper(one, other, n, thing), False)


if __name__ == "__main__":
    unittest.main()
