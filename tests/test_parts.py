"""Points 10 and 12: hearing, goings on, settled moments, and parts of journals."""

import random
import unittest

from asofhall.books import Book
from asofhall.errors import BadBook, BadEntry, BadMoment, BadName
from asofhall.journals import Journal
from tests.helpers import fails, not_integers, not_names
from tests.models import random_entries, standing

LATES = {"a": 3, "b": 0}
BOOK = Book(LATES)


def row(number, moment=0, arrival=0, stream="a", key="k", amount=1):
    return ("row", number, stream, key, moment, amount, arrival)


def random_journal(rng, lates, tries):
    return Journal(Book(lates), random_entries(rng, lates, tries))


class Hearing(unittest.TestCase):
    def test_entries_of_at_most_the_moment(self):
        entries = (row(0, -2, -2), row(1), row(2), row(3, 1, 1))
        journal = Journal(BOOK, entries)
        for h, many in ((-10 ** 40, 0), (-3, 0), (-2, 1), (-1, 1), (0, 3), (1, 4), (2, 4), (10 ** 40, 4)):
            self.assertEqual(journal.heard(h), Journal(BOOK, entries[:many]), h)
        self.assertEqual(journal.entries, entries)

    def test_without_entries(self):
        self.assertEqual(Journal(BOOK).heard(5), Journal(BOOK))

    def test_moments_of_another_kind(self):
        journal = Journal(BOOK, [row(0)])
        for h in not_integers():
            fails(self, BadMoment, {"value": h}, journal.heard, h)

    def test_settled_moments_keep_their_rows_in_each_going_on(self):
        rng = random.Random(10)
        lates = {"a": 2, "b": 0, "c": 5}
        kept = 0
        for _ in range(120):
            journal = random_journal(rng, lates, 20)
            h = (journal.latest() or 0) + rng.randrange(3)
            later = random_entries(rng, lates, 20, journal.entries, h + 1)
            whole = Journal(journal.book, [*journal.entries, *[one for one in later if one[-1] > h]])
            for stream, late in lates.items():
                for key in ("k", "l"):
                    ahead = [one for one in journal.rows(stream, key) if one[0] + late <= h]
                    behind = [one for one in whole.rows(stream, key) if one[0] + late <= h]
                    self.assertEqual(ahead, behind)
                    kept += len(ahead)
            self.assertEqual(whole.heard(h), journal)
        self.assertGreater(kept, 100)

    def test_at_a_moment_that_is_not_settled_all_may_happen(self):
        # At 4 the moment 2 of a stream with lateness 3 is not settled: 2 + 3 > 4.
        journal = Journal(BOOK, [row(0, 2, 2)])
        self.assertEqual(journal.then(row(1, 2, 5)).rows("a", "k"), [(2, 0, 1), (2, 1, 1)])
        self.assertEqual(journal.then(("gone", 0, 5)).rows("a", "k"), [])
        self.assertEqual(journal.then(("fix", 0, 2, 9, 5)).rows("a", "k"), [(2, 0, 9)])
        self.assertEqual(journal.then(("fix", 0, 5, 1, 5)).rows("a", "k"), [(5, 0, 1)])
        # At 5 it is settled: no entry above 5 may touch it.
        for entry in (row(1, 2, 6), ("gone", 0, 6), ("fix", 0, 2, 9, 6), ("fix", 0, 6, 1, 6)):
            fails(self, BadEntry, {"at": 1}, journal.then, entry)


class Only(unittest.TestCase):
    def test_entries_with_fixes_and_takings_back_in_order(self):
        entries = (row(0), row(1, key="l"), ("fix", 0, 0, 5, 0), ("fix", 1, 0, 6, 0), ("gone", 0, 1), row(2, 1, 1))
        journal = Journal(BOOK, entries)
        self.assertEqual(journal.only("k").entries, (entries[0], entries[2], entries[4], entries[5]))
        self.assertEqual(journal.only("l").entries, (entries[1], entries[3]))
        self.assertEqual(journal.only("m").entries, ())
        self.assertEqual(journal.only("m").book, BOOK)
        self.assertEqual(journal.entries, entries)

    def test_keys_of_another_kind(self):
        journal = Journal(BOOK, [row(0)])
        for key in not_names():
            fails(self, BadName, {"value": key}, journal.only, key)

    def test_random_keys_have_their_rows(self):
        rng = random.Random(12)
        for _ in range(60):
            journal = random_journal(rng, LATES, 20)
            for key in ("k", "l"):
                part = journal.only(key)
                self.assertEqual(part.key_names(), [one for one in journal.key_names() if one == key])
                for stream in LATES:
                    self.assertEqual(part.rows(stream, key), journal.rows(stream, key))


class Without(unittest.TestCase):
    def test_leaves_out_all_entries_with_the_ids(self):
        entries = (row(0), row(1), ("fix", 0, 0, 5, 0), row(2), ("gone", 1, 1), ("fix", 2, 1, 5, 1))
        journal = Journal(BOOK, entries)
        self.assertEqual(journal.without([0, 1]).entries, (entries[3], entries[5]))
        self.assertEqual(journal.without((2,)).entries, (entries[0], entries[1], entries[2], entries[4]))
        self.assertEqual(journal.without([2, 2, 0, 1]).entries, ())
        self.assertEqual(journal.without([]), journal)
        self.assertEqual(journal.without([7, -1, 10 ** 40]), journal)
        self.assertEqual(journal.entries, entries)

    def test_its_argument_is_not_changed(self):
        ids = [1, 0, 1]
        Journal(BOOK, [row(0)]).without(ids)
        self.assertEqual(ids, [1, 0, 1])

    def test_random_ids(self):
        rng = random.Random(13)
        for _ in range(60):
            journal = random_journal(rng, LATES, 20)
            ids = [one[1] for one in journal.entries if rng.randrange(2)]
            told = tuple(one for one in journal.entries if one[1] not in ids)
            self.assertEqual(journal.without(ids).entries, told)


class Joining(unittest.TestCase):
    def test_entries_of_both_by_arrivals(self):
        one = Journal(BOOK, [row(0, 0, 0), row(1, 2, 2), ("gone", 0, 2), row(2, 4, 4)])
        other = Journal(Book(LATES), [row(3, -1, -1), row(4, 0, 0), ("fix", 4, 2, 0, 2), ("gone", 3, 2)])
        self.assertEqual((one | other).entries, (
            row(3, -1, -1), row(0, 0, 0), row(4, 0, 0), row(1, 2, 2), ("gone", 0, 2), ("fix", 4, 2, 0, 2),
            ("gone", 3, 2), row(2, 4, 4)))
        self.assertEqual((one | other).book, BOOK)
        self.assertEqual(len(one), 4)
        self.assertEqual(len(other), 4)

    def test_equal_arrivals(self):
        one = Journal(BOOK, [row(5), row(1)])
        other = Journal(BOOK, [row(4), row(0)])
        self.assertEqual((one | other).entries, (row(5), row(1), row(4), row(0)))
        self.assertEqual((other | one).entries, (row(4), row(0), row(5), row(1)))

    def test_with_a_journal_without_entries(self):
        one = Journal(BOOK, [row(5), row(1)])
        self.assertEqual(one | Journal(BOOK), one)
        self.assertEqual(Journal(BOOK) | one, one)
        self.assertEqual(Journal(BOOK) | Journal(BOOK), Journal(BOOK))

    def test_books_that_are_not_equal(self):
        # The id 0, which both have, would be told behind the book.
        for lates in ({"a": 3}, {"a": 3, "b": 1}, {"a": 3, "b": 0, "c": 0}):
            book = Book(lates)
            with self.assertRaises(BadBook) as told:
                Journal(BOOK, [row(0)]) | Journal(book, [row(0)])
            self.assertIs(told.exception.value, book)

    def joins_badly(self, at, one, other):
        ahead = one.entries, other.entries
        with self.assertRaises(BadEntry) as told:
            one | other
        self.assertEqual(vars(told.exception), {"at": at})
        self.assertEqual((one.entries, other.entries), ahead)

    def test_an_id_that_both_have(self):
        one = Journal(BOOK, [row(0), row(1, 1, 1)])
        self.joins_badly(3, one, Journal(BOOK, [row(2), row(1, 2, 2)]))
        self.joins_badly(3, one, Journal(BOOK, [row(2), row(1, 0, 0)]))
        self.joins_badly(2, one, Journal(BOOK, [row(1, 0, 0), row(2, 1, 1)]))
        self.joins_badly(1, one, Journal(BOOK, [row(0)]))
        # The row goes ahead of the other's row with the same id, also if it is gone by then.
        self.joins_badly(2, Journal(BOOK, [row(0), ("gone", 0, 0)]), Journal(BOOK, [row(0, 1, 1)]))

    def test_400_and_401_entries(self):
        one = Journal(BOOK, [row(number) for number in range(200)])
        other = Journal(BOOK, [row(number) for number in range(200, 400)])
        self.assertEqual(len(one | other), 400)
        self.joins_badly(400, one, other.then(row(400)))
        self.joins_badly(400, one.then(row(400)), other)

    def test_a_bad_entry_and_the_401st(self):
        one = Journal(BOOK, [row(number) for number in range(300)])
        # The first bad one counts: it is ahead of the 401st, it is the 401st, it is behind it.
        self.joins_badly(399, one, Journal(BOOK, [row(1000 + n) for n in range(99)] + [row(0, 1, 1), row(401, 1, 1)]))
        self.joins_badly(400, one, Journal(BOOK, [row(1000 + n) for n in range(100)] + [row(0, 1, 1)]))
        self.joins_badly(400, one, Journal(BOOK, [row(1000 + n) for n in range(102)] + [row(0, 1, 1)]))

    def test_random_parts_join_to_the_whole(self):
        rng = random.Random(14)
        for _ in range(60):
            journal = random_journal(rng, LATES, 25)
            left = [one[1] for one in journal.entries if one[1] % 2]
            right = [one[1] for one in journal.entries if one[1] % 2 == 0]
            joined = journal.without(left) | journal.without(right)
            self.assertEqual(standing(joined.entries), standing(journal.entries))
            arrivals = [one[-1] for one in joined.entries]
            self.assertEqual(arrivals, sorted(arrivals))
            self.assertEqual(sorted(joined.entries), sorted(journal.entries))
            self.assertEqual(joined.without(left), journal.without(left))
            self.assertEqual(joined.without(right), journal.without(right))
