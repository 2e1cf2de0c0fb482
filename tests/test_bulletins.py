"""Served answers: asks and ticks [46], bulletins [47], what is final stays [48]."""

import random
import unittest

from asofhall.amounts import Count, Gap, Number, Total
from asofhall.books import Book
from asofhall.bulletins import bulletins
from asofhall.errors import BadAsk, BadJournal, BadName, BadTicks
from asofhall.journals import Journal
from asofhall.moments import Last, Next
from asofhall.waits import enough_wait
from tests import models
from tests.ask_tests import SMALL, ask_errors, random_asks, random_ticks, row, told_model
from tests.helpers import errors_in_order, fails, not_integers, not_made_of, picture
from tests.pair_tests import A, AFTER, B, NOW

LATES = {"a": 3, "b": 0}
BOOK = Book(LATES)
EMPTY = Journal(BOOK)


class Told(unittest.TestCase):
    def told(self, entries, asks, ticks, expected):
        journal = Journal(BOOK, entries)
        before = picture([journal, asks, ticks])
        self.assertEqual(bulletins(journal, asks, ticks), expected)
        self.assertEqual(picture([journal, asks, ticks]), before)

    def test_told_mended_and_closed(self):
        entries = [row(0, "a", 1), row(1, "a", 2, 4), ("fix", 1, 3, 0, 5)]
        asks = {"x": (A, "k", 3)}
        self.told(entries, asks, [3, 4, 5, 6, 7], [
            ("told", 3, "x", 1, "open"), ("mended", 4, "x", 2, "open"), ("mended", 5, "x", 3, "open"), ("closed", 6, "x", 3, "final")])
        # The same at fewer ticks.
        self.told(entries, asks, (3, 4, 9, 10), [
            ("told", 3, "x", 1, "open"), ("mended", 4, "x", 2, "open"), ("mended", 9, "x", 3, "final")])
        self.told(entries, asks, [5, 6], [("told", 5, "x", 3, "open"), ("closed", 6, "x", 3, "final")])
        self.told(entries, asks, [6], [("told", 6, "x", 3, "final")])
        self.told(entries, asks, [100, 200], [("told", 100, "x", 3, "final")])

    def test_no_answer_is_an_answer(self):
        self.told([], {"x": (A, "k", 3)}, [3, 4, 6, 7], [("told", 3, "x", None, "open"), ("closed", 6, "x", None, "final")])
        entries = [row(0, "a", 2, 4), ("gone", 0, 5)]
        self.told(entries, {"x": (A, "k", 3)}, [3, 4, 5, 6], [
            ("told", 3, "x", None, "open"), ("mended", 4, "x", 2, "open"), ("mended", 5, "x", None, "open"),
            ("closed", 6, "x", None, "final")])
        self.told(entries, {"x": (A, "k", 3)}, [4, 6], [("told", 4, "x", 2, "open"), ("mended", 6, "x", None, "final")])

    def test_a_tick_at_now_and_one_ahead_of_it(self):
        self.told([], {"x": (B, "k", 5)}, [3, 4], [])
        self.told([], {"x": (B, "k", 5)}, [4, 5], [("told", 5, "x", None, "final")])
        self.told([], {"x": (NOW, "k", 5), "y": (NOW, "k", 4)}, [4, 5, 6], [
            ("told", 4, "y", 4, "final"), ("told", 5, "x", 5, "final")])

    def test_no_ticks(self):
        self.told([row(0, "a", 1)], {"x": (A, "k", 3)}, [], [])
        self.told([row(0, "a", 1)], {"x": (A, "k", 3)}, (), [])

    def test_a_tick_just_at_now_plus_the_wait_that_is_enough(self):
        entries = [row(0, "a", 1, amount=7), row(1, "a", 3, 5, amount=2)]
        for question, early, late in [
                (Count("a", NOW - 9, NOW), 1, 2), (Total("a", NOW - 9, NOW), 7, 9), (Count("a", NOW - 9, NOW + 2), 1, 2),
                (Gap(A, NOW), 2, 0), (Gap(NOW, A), -2, 0), (Count("a", A - 1, NOW + 3), 1, 1)]:
            w = enough_wait(question, BOOK)
            now = 3
            self.assertGreaterEqual(w, 3)
            expected = [("told", 4, "x", early, "open")]
            if early != late:
                expected.append(("mended", 5, "x", late, "open"))
            expected.append(("closed", now + w, "x", late, "final"))
            self.told(entries, {"x": (question, "k", now)}, [4, *range(5, now + w + 1)], expected)
            self.told(entries, {"x": (question, "k", now)}, [2, now + w - 1, now + w, now + w + 9], [
                *([("told", now + w - 1, "x", late, "open")] if w > 1 else []), ("closed", now + w, "x", late, "final")])

    def test_an_ask_that_no_wait_is_enough_for(self):
        question = Count("a", NOW, Next("b", NOW))
        self.assertIsNone(enough_wait(question, BOOK))
        self.told([row(0, "b", 5)], {"x": (question, "k", 3)}, [4, 6, 10 ** 9], [
            ("told", 4, "x", None, "open"), ("mended", 6, "x", 0, "open")])
        # The answer of a moment term may be final, though no wait is enough for it.
        self.told([row(0, "b", 5)], {"x": (Next("b", NOW), "k", 3)}, [4, 5], [
            ("told", 4, "x", None, "open"), ("mended", 5, "x", 5, "final")])

    def test_terms_and_numbers_are_final_as_soon_as_the_journal_says_so(self):
        entries = [row(0, "b", 5, amount=8), row(1, "a", 5, 6, amount=3)]
        asks = {"n": (Number("b", NOW), "k", 9), "t": (A.earlier(B), "k", 6)}
        self.told(entries, asks, [5, 6, 7, 8, 9], [
            ("told", 6, "t", 5, "open"), ("closed", 8, "t", 5, "final"), ("told", 9, "n", 8, "final")])

    def test_ascending_names_and_keys_of_their_own(self):
        entries = [row(0, "a", 1, amount=5), row(1, "a", 2, amount=6, key="l"), row(2, "b", 2, amount=1)]
        asks = {"zz": (Number("a", NOW), "l", 2), "b": (Number("a", NOW), "k", 2), "ab": (B, "k", 2), "a": (B, "l", 2), "c": (NOW, "m", 1)}
        self.told(entries, asks, [2, 5], [
            ("told", 2, "a", None, "final"), ("told", 2, "ab", 2, "final"), ("told", 2, "b", 5, "open"), ("told", 2, "c", 1, "final"),
            ("told", 2, "zz", 6, "open"), ("closed", 5, "b", 5, "final"), ("closed", 5, "zz", 6, "final")])

    def test_an_entry_just_at_a_tick_is_heard(self):
        self.told([row(0, "b", 4)], {"x": (B, "k", 4)}, [4], [("told", 4, "x", 4, "final")])
        self.told([row(0, "b", 5)], {"x": (Last("b", NOW + 1), "k", 4)}, [4, 5], [
            ("told", 4, "x", None, "open"), ("mended", 5, "x", 5, "final")])

    def test_as_the_words_of_the_document_go(self):
        rng = random.Random(111)
        told = {"told": 0, "mended": 0, "closed": 0}
        words = {"open": 0, "final": 0}
        for _ in range(400):
            lates = {"a": rng.randrange(7), "b": rng.randrange(5)}
            entries = models.random_entries(rng, lates, rng.randrange(40))
            asks, ticks = random_asks(rng, 4), random_ticks(rng, 14, 22)
            found = bulletins(Journal(Book(lates), entries), asks, ticks)
            self.assertEqual(found, told_model(Book(lates), entries, asks, ticks))
            for word, _, _, _, end in found:
                told[word] += 1
                words[end] += 1
        self.assertGreater(min([*told.values(), *words.values()]), 30)


class Final(unittest.TestCase):
    def test_what_is_final_stays(self):
        rng = random.Random(112)
        many = 0
        for _ in range(150):
            lates = {"a": rng.randrange(4), "b": rng.randrange(3)}
            book = Book(lates)
            entries = models.random_entries(rng, lates, rng.randrange(15))
            asks, ticks = random_asks(rng, 3), random_ticks(rng, 6, 20)
            found = bulletins(Journal(book, entries), asks, ticks)
            for _, h, name, answer, word in found:
                if word == "final":
                    question, key, now = asks[name]
                    heard = [entry for entry in entries if entry[-1] <= h]
                    for _ in range(4):
                        more = models.random_going_on(rng, lates, heard, h, 6)
                        self.assertEqual(models.answer_behind(question, [*heard, *more], key, now), answer)
                    self.assertEqual(models.answer_behind(question, entries, key, now), answer)
                    self.assertEqual([one for one in found if one[2] == name][-1][1], h)
                    many += 1
        self.assertGreater(many, 100)

    def test_the_last_bulletin_has_the_answer_of_the_whole_journal(self):
        rng = random.Random(113)
        for _ in range(150):
            lates = {"a": rng.randrange(4), "b": rng.randrange(3)}
            entries = models.random_entries(rng, lates, rng.randrange(15))
            asks, ticks = random_asks(rng, 4), random_ticks(rng, 5, 20)
            end = max([0, *[entry[-1] for entry in entries], *[now for _, _, now in asks.values()]])
            ticks = [*[h for h in ticks if h < end], end]
            found = bulletins(Journal(Book(lates), entries), asks, ticks)
            for name, (question, key, now) in asks.items():
                last = [one for one in found if one[2] == name][-1]
                self.assertEqual(last[3], models.answer_behind(question, entries, key, now))


class Wrong(unittest.TestCase):
    def test_asks(self):
        ask_errors(self, lambda asks: bulletins(EMPTY, asks, [None]))
        asks = {chr(97 + at): (question, "k", 0) for at, question in enumerate(SMALL[:12])}
        self.assertEqual(len(asks), 12)
        self.assertEqual([one[2] for one in bulletins(EMPTY, asks, [0])], sorted(asks))
        for question in SMALL:
            self.assertEqual(len(bulletins(EMPTY, {"x": (question, "k", 0)}, [0])), 1)

    def test_ticks(self):
        asks = {"x": (A, "k", 0)}
        for thing in [*not_made_of((list, tuple)), list(range(61)), [None] * 61, tuple(range(61))]:
            fails(self, BadTicks, {"at": -1}, bulletins, EMPTY, asks, thing)
        for thing in not_integers():
            fails(self, BadTicks, {"at": 0}, bulletins, EMPTY, asks, [thing])
            fails(self, BadTicks, {"at": 2}, bulletins, EMPTY, asks, (1, 5, thing, 3, None))
        for ticks, at in [([1, 1], 1), ([1, 0], 1), ([-5, 0, 7, 7, 6], 3), ([0] * 60, 1), ([10 ** 30, -10 ** 30], 1)]:
            fails(self, BadTicks, {"at": at}, bulletins, EMPTY, asks, ticks)
        self.assertEqual(bulletins(EMPTY, asks, list(range(60))), [("told", 0, "x", None, "open"), ("closed", 3, "x", None, "final")])
        self.assertEqual(bulletins(EMPTY, asks, (-10 ** 30, 10 ** 30)), [("told", 10 ** 30, "x", None, "final")])

    def test_one_ahead_of_the_other(self):
        errors_in_order(self, bulletins, (EMPTY, {"x": (A, "k", 0)}, [0]), [
            (0, BOOK, BadJournal, {"value": BOOK}), (1, {"x": (A, "k", True)}, BadAsk, {"name": "x"}), (2, [True], BadTicks, {"at": 0}),
            (1, {"x": (A, "k", 0), "y": (Number("z", Last("y", NOW)), "k", 0), "a": (Last("z", NOW), "k", 0)}, BadName, {"value": "y"})])
        for thing in not_made_of(Journal):
            fails(self, BadJournal, {"value": thing}, bulletins, thing, {}, [])
        for question in (Last("z", NOW), Number("z", NOW), Count("z", A, B), Gap(NOW, A | Next("z", NOW))):
            fails(self, BadName, {"value": "z"}, bulletins, EMPTY, {"x": (AFTER, "k", 0), "a": (question, "k", 0)}, [])

    def test_lists_are_new_ones(self):
        asks, ticks = {"x": (A, "k", 3)}, [3]
        bulletins(EMPTY, asks, ticks).clear()
        self.assertEqual(bulletins(EMPTY, asks, ticks), [("told", 3, "x", None, "open")])


if __name__ == "__main__":
    unittest.main()
