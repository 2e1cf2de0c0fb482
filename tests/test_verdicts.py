"""Verdicts: alike, covers, worlds that show the contrary, papers [23] to [31]."""

import random
import unittest

from asofhall.answers import value
from asofhall.errors import NoPaper
from asofhall.moments import Last, Next
from asofhall.verdicts import (
    alike, cover_paper, covers, is_cover_paper, is_paper, is_parting, lacking, paper, parting)
from asofhall.worlds import World
from tests import models
from tests.helpers import fails, picture
from tests.pair_tests import A, AFTER, B, NOW, pair_errors, random_pair, small_worlds, things

# Pairs that are alike, though most are written otherwise.
ALIKE = [
    (NOW, NOW), (A, A), (AFTER, AFTER), (NOW | A, NOW), (A | A, A), (A, A.later(A)), (A, A.earlier(A)),
    (Last("a", A), A), (Next("a", A), A), (Last("a", AFTER), AFTER), (A.later(NOW), NOW.later(A)),
    (NOW.later(NOW + 1), NOW + 1), (NOW.earlier(NOW - 10 ** 40), NOW - 10 ** 40), (A.earlier(NOW), A), (A.later(B), B.later(A)),
    (A.earlier(B), B.earlier(A)), (AFTER.later(NOW), AFTER), ((A + 1).later(A), A + 1),
    (Next("a", Last("b", NOW - 1) + 1), Next("a", (Last("b", (NOW - 2) + 1) - 1) + 2)),
    (Last("a", NOW.earlier(NOW + 1)), A), (NOW.later(NOW.later(NOW + 2)), NOW.later(NOW + 2)), (A | A + 1, A),
    (Last("a", NOW - 1).earlier(A), Last("a", NOW - 1)),
]
# Pairs that are not; and whether the first covers the second, the second the first.
APART = [
    (NOW, NOW + 1, True, True), (NOW, A, True, False), (A, AFTER, False, False), (A, B, False, False), (A, A + 1, True, True),
    (A | NOW, NOW, True, True), (A | B, A, True, False), (A | B, B | A, True, True), (A.later(B), A, False, True),
    (A.later(B), A.earlier(B), True, True), (Last("a", NOW - 1), A, False, True), (Last("a", NOW + 1), A, True, False),
    (Last("a", A - 1), A, False, True), (Next("a", A), AFTER, False, False), (Last("a", AFTER), A, False, False),
    (Last("a", NOW + 10 ** 30), A, True, False), (Next("b", A), A, False, True), (NOW.later(A), NOW, False, True),
    (A | AFTER, AFTER | A, True, True), (Next("a", A - 5), A, True, True), (Last("a", A + 5), A, True, True),
    (Last("b", A), B.earlier(A), False, True), (A | AFTER, A, True, False),
]


def shows_parting(one, other, thing):
    world, now = thing
    return type(world) is World and type(now) is int and value(one, world, now) != value(other, world, now)


class Verdicts(unittest.TestCase):
    def test_pairs_that_are_alike(self):
        for one, other in ALIKE:
            for first, second in [(one, other), (other, one)]:
                self.assertIs(alike(first, second), True, first.spelling)
                self.assertIs(covers(first, second), True)
                self.assertIsNone(parting(first, second))
                self.assertIsNone(lacking(first, second))
                self.assertIs(is_paper(first, second, paper(first, second)), True)
                self.assertIs(is_cover_paper(first, second, cover_paper(first, second)), True)

    def test_pairs_that_are_not(self):
        for one, other, forth, back in APART:
            for first, second, covered in [(one, other, forth), (other, one, back)]:
                self.assertIs(alike(first, second), False, first.spelling)
                self.assertTrue(shows_parting(first, second, parting(first, second)))
                fails(self, NoPaper, {}, paper, first, second)
                self.assertIs(covers(first, second), covered, (first.spelling, second.spelling))
                if covered:
                    self.assertIsNone(lacking(first, second))
                    self.assertIs(is_cover_paper(first, second, cover_paper(first, second)), True)
                else:
                    world, now = lacking(first, second)
                    self.assertIsNone(value(first, world, now))
                    self.assertIsNotNone(value(second, world, now))
                    fails(self, NoPaper, {}, cover_paper, first, second)

    def test_what_is_shown_has_at_most_four_rows(self):
        rng = random.Random(31)
        for _ in range(500):
            one, other = random_pair(rng, 5)
            before = picture([one, other])
            for shown in (parting(one, other), lacking(one, other)):
                if shown is not None:
                    self.assertIs(type(shown), tuple)
                    self.assertEqual([type(part) for part in shown], [World, int])
                    self.assertLessEqual(len(shown[0]), 4)
            self.assertEqual(parting(one, other) is None, alike(one, other))
            self.assertEqual(lacking(one, other) is None, covers(one, other))
            if not alike(one, other):
                self.assertTrue(shows_parting(one, other, parting(one, other)))
                self.assertIs(is_parting(one, other, parting(one, other)), True)
            if not covers(one, other):
                world, now = lacking(one, other)
                self.assertEqual((value(one, world, now), value(other, world, now) is None), (None, False))
            self.assertEqual(picture([one, other]), before)

    def test_in_all_small_worlds(self):
        rng = random.Random(32)
        worlds = list(small_worlds("ab", 2, 4))
        told = {True: 0, False: 0}
        for _ in range(40):
            one, other = random_pair(rng, 4)
            same, covered = alike(one, other), covers(one, other)
            told[same] += 1
            for rows in worlds:
                first, second = models.answer(one, rows, 0), models.answer(other, rows, 0)
                self.assertTrue(first == second or not same)
                self.assertTrue(first is not None or second is None or not covered)
        self.assertGreater(min(told.values()), 4)

    def test_the_same_call_gives_the_same(self):
        for one, other, _, _ in APART:
            self.assertEqual(parting(one, other), parting(one, other))
        for one, other in ALIKE:
            self.assertEqual(paper(one, other), paper(one, other))


class Judged(unittest.TestCase):
    def test_is_parting_by_hand(self):
        world = World({"a": [(5, 0, 1)], "b": [(7, 1, 1)]})
        many = World({"a": [(at, at, 0) for at in range(400)]})
        for one, other, thing, flag in [
                (A, NOW, (world, 6), True), (A, NOW, (world, 5), False), (A, NOW, (world, 4), True), (A, B, (world, 4), False),
                (A, B, (world, 5), True), (A, AFTER, (many, 100), False), (A, AFTER, (many, 1000), True),
                (A, A, (world, 6), False), (A, NOW, [world, 6], False), (A, NOW, (world, 6, 0), False),
                (A, NOW, (world,), False), (A, NOW, (world, True), False), (A, NOW, (6, world), False)]:
            self.assertIs(is_parting(one, other, thing), flag)

    def test_things_of_any_kind_and_size(self):
        for thing in things():
            for one, other in [(A, B), (NOW, NOW + 1), (A.later(B), A), (NOW, NOW)]:
                if one is not NOW or thing != (World({}), 0):
                    self.assertIs(is_parting(one, other, thing), False)
            for one, other in [(A, A), (A, B), (A | B, B | A)]:
                self.assertIs(is_paper(one, other, thing), False)
                self.assertIs(is_cover_paper(one, other, thing), False)

    def test_errors(self):
        for call in (alike, covers, parting, lacking, paper, cover_paper):
            pair_errors(self, call)
        for call in (is_parting, is_paper, is_cover_paper):
            for thing in (None, (World({}), 0), ("fine",)):
                pair_errors(self, lambda one, other: call(one, other, thing))


if __name__ == "__main__":
    unittest.main()
