"""Final answers of a journal [37]."""

import itertools
import random
import unittest

from asofhall.amounts import Count, Gap, Number, Total
from asofhall.books import Book
from asofhall.errors import BadJournal, BadMoment, BadName, BadQuestion, TooMany
from asofhall.finals import changing, final, is_changing
from asofhall.journals import Journal
from asofhall.moments import Last, Next
from asofhall.waits import least_wait
from tests import models
from tests.helpers import errors_in_order, fails, nested, not_integers, not_made_of, not_names, not_questions, odd_values, picture
from tests.pair_tests import A, AFTER, B, NOW

LATES = {"a": 2, "b": 0}
BOOK = Book(LATES)
EMPTY = Journal(BOOK)
AMOUNT = Number("a", NOW)


def row(number, stream, moment, arrival, amount=1, key="k"):
    return ("row", number, stream, key, moment, amount, arrival)


class Decided(unittest.TestCase):
    def decided(self, question, journal, key, now, h):
        """Asserts that final and changing agree and that what changes does; returns final."""
        before = picture([question, journal])
        flag, entries = final(question, journal, key, now, h), changing(question, journal, key, now, h)
        self.assertEqual(picture([question, journal]), before)
        self.assertIs(flag, entries is None)
        self.assertIs(is_changing(question, journal, key, now, h, []), False)
        if entries is not None:
            self.assertIs(type(entries), list)
            self.assertLessEqual(len(entries), 12)
            lates = {stream: journal.book.late(stream) for stream in journal.book.streams()}
            self.assertTrue(models.is_going_on(lates, journal.entries, h, entries))
            behind = models.answer_behind(question, [*journal.entries, *entries], key, now)
            self.assertNotEqual(behind, models.answer_behind(question, journal.entries, key, now))
            self.assertIs(is_changing(question, journal, key, now, h, entries), True)
        return flag

    def test_a_journal_without_entries(self):
        for question, now, h, flag in [
                (NOW, 5, -100, True), (A, 5, -3, False), (A, 5, 6, False), (A, 5, 7, True), (A, 5, 100, True), (B, 5, 5, True),
                (B, 5, 4, False), (AFTER, 5, 100, False), (Next("a", NOW - 9), 5, 100, False)]:
            self.assertIs(self.decided(question, EMPTY, "k", now, h), flag)
        # A row of b may come behind now, but then the answer is now, too.
        self.assertIs(self.decided(Next("b", NOW).earlier(NOW) | NOW, EMPTY, "k", 5, 5), True)

    def test_a_moment_just_settled(self):
        journal = Journal(BOOK, [row(0, "a", 1, 1), row(1, "a", 5, 6)])
        for question in (A, AMOUNT):
            for now, h, flag in [(5, 6, False), (5, 7, True), (6, 7, False), (6, 8, True), (4, 6, True), (4, 100, True)]:
                self.assertIs(self.decided(question, journal, "k", now, h), flag, (now, h))
        # The lateness of b is 0: all of it is settled as soon as it is heard.
        journal = Journal(BOOK, [row(0, "b", 5, 5)])
        for now, h, flag in [(5, 5, True), (6, 5, False), (6, 6, True), (7, 6, False)]:
            self.assertIs(self.decided(B, journal, "k", now, h), flag, (now, h))

    def test_a_row_may_go_move_or_get_another_amount(self):
        journal = Journal(BOOK, [row(0, "a", 5, 6)])
        right = [[("gone", 0, 7)], [("fix", 0, 6, 1, 7)], [row(1, "a", 7, 7), ("fix", 0, 6, 1, 7)],
                 [row(1, "a", 6, 7, key="l"), ("gone", 1, 7), ("gone", 0, 7)]]
        for entries in right:
            self.assertIs(is_changing(A, journal, "k", 5, 6, entries), True, entries)
        for entries in [
                [("gone", 0, 6)], [("gone", 0, 8)], [("gone", 1, 7)], [("fix", 0, 4, 1, 7)], [("fix", 0, 5, 9, 7)],
                [("fix", 0, 6, 1, 6)], [row(1, "a", 5, 7)], [row(0, "a", 5, 7)], [row(1, "b", 7, 7)], [row(1, "a", 4, 7)],
                [row(1, "a", 7, 7)], [("gone", 0, 7), ("gone", 0, 7)], [("gone", 0, 7), row(1, "a", 5, 7)], [row(1, "z", 7, 7)],
                [row(1, "a", 5, 7, key="l")], [("fix", 0, 6, 1, 7), ("fix", 0, 5, 1, 7)], [("fix", 0, 6, 1, 8)],
                [row(1, "a", 7, 9), ("gone", 0, 7)], [("gone", 0, 7), 0], [("gone", 0, 7), ("gone",)], [["gone", 0, 7]],
                (("gone", 0, 7),), {0: ("gone", 0, 7)}, [("gone", False, 7)], [("gone", 0, True)]]:
            self.assertIs(is_changing(A, journal, "k", 5, 6, entries), False, entries)
        for entries, flag in [
                ([("fix", 0, 5, 9, 7)], True), ([("fix", 0, 5, 1, 7)], False), ([("gone", 0, 7)], True), ([row(1, "a", 5, 7, 2)], True),
                ([row(1, "a", 5, 7, 1)], False), ([("gone", 0, 7), row(1, "a", 5, 7, 1)], False), ([row(1, "a", 6, 7, 2)], False),
                ([("gone", 0, 7), row(1, "a", 5, 7, 2)], True), ([("fix", 0, 5, 9, 7), ("fix", 0, 5, 1, 7)], False)]:
            self.assertIs(is_changing(AMOUNT, journal, "k", 5, 6, entries), flag, entries)
        other = [row(1, "a", 5, 7, key="l")]
        self.assertIs(is_changing(A, journal, "l", 5, 6, other), True)
        self.assertIs(is_changing(A, journal, "k", 5, 6, other), False)

    def test_the_row_with_the_greatest_id_tells_the_amount(self):
        journal = Journal(BOOK, [row(7, "a", 5, 5, 70), row(3, "a", 5, 5, 30)])
        self.assertIs(is_changing(AMOUNT, journal, "k", 5, 6, [("fix", 3, 5, 99, 7)]), False)
        self.assertIs(is_changing(AMOUNT, journal, "k", 5, 6, [("fix", 7, 5, 99, 7)]), True)
        self.assertIs(is_changing(AMOUNT, journal, "k", 5, 6, [row(5, "a", 5, 7, 99)]), False)
        self.assertIs(is_changing(AMOUNT, journal, "k", 5, 6, [row(8, "a", 5, 7, 99)]), True)
        self.assertIs(self.decided(AMOUNT, journal, "k", 5, 7), True)
        self.assertIs(self.decided(AMOUNT, journal, "k", 5, 6), False)

    def test_several_entries_are_needed(self):
        rows = [row(number, "a", 5, 5, number) for number in range(6)]
        journal = Journal(BOOK, rows)
        self.assertIs(self.decided(A, journal, "k", 5, 6), False)
        self.assertEqual(len(changing(A, journal, "k", 5, 6)), 6)
        for many in range(6):
            self.assertIs(is_changing(A, journal, "k", 5, 6, [("gone", number, 7) for number in range(many)]), False)
        self.assertIs(is_changing(A, journal, "k", 5, 6, [("gone", number, 7) for number in range(6)]), True)
        # The answer stays 3 unless both the row of b comes and the one of a goes.
        journal = Journal(BOOK, [row(0, "b", 3, 3), row(1, "a", 9, 9)])
        question = Last("b", Last("a", NOW))
        self.assertIs(self.decided(question, journal, "k", 9, 9), False)
        self.assertIs(self.decided(question, journal, "k", 9, 11), True)

    def test_numbers_that_are_told_with_other_amounts(self):
        # Another row is found, but with the same amount: so two amounts are tried.
        for amount in (0, 1, -1, 10 ** 40):
            journal = Journal(BOOK, [row(0, "a", 1, 1, amount), row(1, "b", 5, 5, amount), row(2, "b", 6, 6, amount)])
            self.assertIs(self.decided(AMOUNT, journal, "k", 6, 6), False)
            self.assertIs(self.decided(Number("b", Last("b", NOW)), journal, "k", 6, 6), True)
            # Both rows of b that the Number may tell have the same amount.
            question = Number("b", Last("a", NOW))
            both = Journal(BOOK, [row(1, "b", 1, 1, amount), row(0, "a", 2, 2), row(2, "b", 3, 3, amount), row(3, "a", 4, 4)])
            self.assertIs(self.decided(question, both, "k", 4, 5), True)
            self.assertIs(self.decided(Last("b", Last("a", NOW)), both, "k", 4, 5), False)

    def test_rows_that_come_between_two_looks(self):
        # Where the Next finds nothing, the Last finds no row that comes from now on.
        journal = Journal(BOOK, [row(0, "a", 2, 2), row(1, "a", 5, 5)])
        self.assertIs(self.decided(AFTER | (Last("a", NOW + 5) + 3), journal, "k", 5, 5), False)
        self.assertIs(self.decided((AFTER - 3) | Last("a", NOW + 5), journal, "k", 5, 5), False)

    def test_a_next_finds_settled_rows_ahead_of_others(self):
        journal = Journal(BOOK, [row(0, "a", 2, 2), row(1, "b", 3, 3), row(2, "a", 4, 4), row(3, "a", 6, 6)])
        for now, flag in [(0, True), (2, True), (3, True), (4, True), (5, False), (6, False)]:
            self.assertIs(self.decided(AFTER, journal, "k", now, 6), flag, now)
            self.assertIs(self.decided(Next("a", Last("b", NOW) + 1), journal, "k", now, 6), True, now)
        for now, flag in [(4, True), (5, True), (6, True), (7, False)]:
            self.assertIs(self.decided(AFTER, journal, "k", now, 8), flag, now)

    def test_lists_of_any_number_of_entries(self):
        more = [row(number, "a", 9, 9, number, "l") for number in range(1, 1000)]
        rows = [row(number, "a", 5, 7, number) for number in range(1000, 2500)]
        journal = Journal(BOOK, [row(0, "a", 5, 6)])
        self.assertIs(is_changing(A, journal, "k", 5, 6, [("gone", 0, 7), *more]), True)
        self.assertIs(is_changing(A, journal, "k", 5, 6, [*rows, *more]), False)
        self.assertIs(is_changing(AMOUNT, journal, "k", 5, 6, [*rows, *more]), True)
        self.assertIs(is_changing(A, journal, "k", 5, 6, [("gone", 0, 7), *more, ("gone", 0, 9)]), False)
        full = Journal(BOOK, [row(number, "b", number, number) for number in range(380)])
        self.assertIs(self.decided(Next("b", NOW), full, "k", 380, 380), False)
        self.assertIs(self.decided(Last("b", Next("b", NOW)), full, "k", 379, 379), True)

    def test_random_journals(self):
        rng = random.Random(61)
        told = {True: 0, False: 0}
        for _ in range(250):
            question, lates = random_asked(rng)
            entries = models.random_entries(rng, lates, rng.randrange(14))
            journal = Journal(Book(lates), entries)
            h = (journal.latest() or 0) + rng.randrange(3)
            least = least_wait(question, journal.book)
            flags = {}
            for now in range(h - 8, h + 3):
                flags[now] = self.decided(question, journal, "k", now, h)
                told[flags[now]] += 1
                self.assertTrue(flags[now] or least is None or h < now + least)
            for _ in range(8):
                more = models.random_going_on(rng, lates, entries, h, rng.randrange(10))
                for now in flags:
                    behind = models.answer_behind(question, [*entries, *more], "k", now)
                    changed = behind != models.answer_behind(question, entries, "k", now)
                    self.assertIs(is_changing(question, journal, "k", now, h, more), changed)
                    self.assertFalse(changed and flags[now])
        self.assertGreater(min(told.values()), 400)

    def test_looks_from_rows_that_may_come_to_settled_ones(self):
        # A row of a may come at the moment now alone, and all of b up to it is settled.
        book = Book({"a": 1, "b": 0})
        for moments, now, question, flag in [
                # From 10, which is where the row of a would be, too, the row at 10 is found.
                ((9, 10), 10, Last("b", (Next("a", NOW - 1) | NOW).earlier(NOW)), True),
                ((9, 11), 10, Last("b", (Next("a", NOW - 1) | NOW).earlier(NOW)), True),
                ((9, 10), 10, Last("b", A | (NOW - 1)), False), ((8, 9), 10, Last("b", A | (NOW - 1)), True),
                # From 9 the row at 9 is found, from 10 the one at 10 or at 11.
                ((9, 10), 10, Next("b", A | (NOW - 1)), False), ((9, 11), 10, Next("b", A | (NOW - 1)), False),
                ((8, 10), 10, Next("b", A | (NOW - 1)), True), ((8, 11), 10, Next("b", A | (NOW - 1)), True)]:
            for h in (10, 11):
                rows = [row(number, "b", moment, moment) for number, moment in enumerate(moments) if moment <= h]
                if len(rows) == 2 and h == 10:
                    self.assertIs(self.decided(question, Journal(book, rows), "k", now, h), flag, moments)
                elif h == 11:
                    # Now all of a up to 10 is settled, too.
                    self.assertIs(self.decided(question, Journal(book, rows), "k", now, h), True, moments)

    def test_numbers_of_settled_rows_with_other_amounts(self):
        book = Book({"a": 1, "b": 0})
        question = Number("b", A | (NOW - 1))
        for amounts, flag in [((5, 6), False), ((5, 5), True), ((0, 1), False), ((1, 0), False), ((0, 0), True)]:
            rows = [row(number, "b", 8 + number, 8 + number, amount) for number, amount in enumerate(amounts)]
            self.assertIs(self.decided(question, Journal(book, rows), "k", 9, 9), flag)
            self.assertIs(self.decided(question, Journal(book, rows), "k", 9, 10), True)

    def test_as_all_worlds_near_the_moment_tell(self):
        rng = random.Random(62)
        told = {True: 0, False: 0}
        for _ in range(400):
            question, lates = two_looks(rng), {"a": rng.choice((0, 1, 2, 4)), "b": rng.choice((0, 1, 3))}
            entries = models.random_entries(rng, lates, rng.randrange(12))
            journal = Journal(Book(lates), entries)
            h = (journal.latest() or 0) + rng.randrange(3)
            now = h + rng.randrange(-9, 4)
            flag = self.decided(question, journal, "k", now, h)
            self.assertIs(flag, not other_answers(question, lates, entries, now, h))
            told[flag] += 1
        self.assertGreater(min(told.values()), 100)

    def test_things_of_any_kind_and_size(self):
        journal = Journal(BOOK, [row(0, "a", 5, 6)])
        deep = nested((), 100000)
        for thing in [*odd_values(), deep, [deep], [("gone", 0, deep)], [(deep, 0, 7)], [("gone", deep, 7)], [None] * 100000]:
            self.assertIs(is_changing(A, journal, "k", 5, 6, thing), False)
        for thing in odd_values():
            self.assertIs(is_changing(A, journal, "k", 5, 6, [("gone", 0, 7), thing]), False)


def two_looks(rng):
    """A moment term or a Number that may be asked, mostly with two looks."""
    def moved(term):
        return term + rng.choice((0, 0, 0, 1, -1, 2, -2, 3, -3, 5, -5))

    def look(term):
        return moved(rng.choice((Last, Last, Next))(rng.choice("ab"), term))

    one, other = look(moved(NOW)), look(moved(NOW))
    word = rng.randrange(10)
    if word < 2:
        return Number(rng.choice("ab"), (one, moved(NOW))[word])
    return (look(one), look(one), moved(one.later(other)), one.earlier(other), one | other, one.earlier(moved(NOW)),
            (one | moved(NOW)).later(other), Number(rng.choice("ab"), one))[word - 2]


def other_answers(question, lates, entries, now, h):
    """Tells whether the answer is another one where at most two rows stand at moments that are not settled."""
    told = models.answer_behind(question, entries, "k", now)
    free = {stream: h + 1 - lates[stream] for stream in "ab"}
    settled = {"a": [], "b": []}
    for stream, key, moment, number, amount in models.standing(entries):
        if key == "k" and moment < free[stream]:
            settled[stream].append((moment, number, amount))
    places = [(stream, free[stream] + more) for stream in "ab" for more in range(18)]
    for many in range(3):
        for chosen in itertools.combinations(places, many):
            for amounts in itertools.product((0, 1), repeat=many if isinstance(question, Number) else 0):
                rows = {stream: list(found) for stream, found in settled.items()}
                for at, (stream, moment) in enumerate(chosen):
                    rows[stream].append((moment, 1000 + at, amounts[at] if amounts else 0))
                if models.answer(question, rows, now) != told:
                    return True
    return False


def random_asked(rng):
    """A moment term or a Number that may be asked, and latenesses."""
    while True:
        term = models.random_term(rng, 5)
        question = Number(rng.choice("ab"), term) if rng.randrange(3) == 0 else term
        if term.looks + (question is not term) <= 2 and term.choices + (question is not term) <= 3:
            return question, {"a": rng.choice((0, 1, 2, 7)), "b": rng.choice((0, 1, 3))}


class Wrong(unittest.TestCase):
    def test_errors(self):
        journal = Journal(BOOK, [row(0, "a", 5, 6)])
        large = A.later(B).earlier(NOW)
        for call, more in [(final, ()), (changing, ()), (is_changing, (None,))]:
            errors_in_order(self, call, (A, journal, "k", 5, 6, *more), [
                (0, Gap(A, A), BadQuestion, {"value": Gap(A, A)}), (1, BOOK, BadJournal, {"value": BOOK}),
                (2, "K", BadName, {"value": "K"}), (3, None, BadMoment, {"value": None}), (4, 5, BadMoment, {"value": 5}),
                (0, large, TooMany, {}), (0, Last("zz", Last("y", NOW)), BadName, {"value": "y"})])
            for question in (large, Number("a", Last("b", A)), Number("zz", A.later(NOW).later(NOW)), Last("zz", Last("b", A))):
                fails(self, TooMany, {}, call, question, journal, "k", 5, 6, *more)
            fails(self, BadName, {"value": "zz"}, call, Number("zz", A), journal, "k", 5, 6, *more)
            for thing in [*not_questions(), Count("a", NOW, NOW), Total("a", NOW, NOW), Gap(NOW, NOW)]:
                fails(self, BadQuestion, {"value": thing}, call, thing, None, None, None, None, *more)
            for thing in not_made_of(Journal):
                fails(self, BadJournal, {"value": thing}, call, A, thing, "K", None, None, *more)
            for thing in not_names():
                fails(self, BadName, {"value": thing}, call, A, journal, thing, None, None, *more)
            for thing in not_integers():
                fails(self, BadMoment, {"value": thing}, call, A, journal, "k", thing, 0, *more)
                fails(self, BadMoment, {"value": thing}, call, A, journal, "k", 5, thing, *more)
            for h in (5, 0, -10 ** 30):
                fails(self, BadMoment, {"value": h}, call, A, journal, "k", 5, h, *more)
            call(A, journal, "k", 5, 6, *more)
            call(AMOUNT, EMPTY, "k", 5, -10 ** 30, *more)


if __name__ == "__main__":
    unittest.main()
