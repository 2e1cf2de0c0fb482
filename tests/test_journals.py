"""Points 7 to 9 and 11: entries, good entries, journals, and the rows that stand."""

import random
import unittest

from asofhall.books import Book
from asofhall.entries import is_entry
from asofhall.errors import BadBook, BadEntry, BadName
from asofhall.journals import Journal
from tests.helpers import fails, not_integers, not_made_of, not_names, odd_values
from tests.models import good, random_entry, standing

LATES = {"a": 3, "b": 0, "c": 10 ** 6}
BOOK = Book(LATES)
ROW = ("row", 4, "a", "k", 10, 7, 11)


def row(number, moment=0, arrival=0, stream="a", key="k", amount=1):
    return ("row", number, stream, key, moment, amount, arrival)


class Judged:
    """What the tests of single entries ask."""

    def bad(self, *entries):
        """Asserts that all entries are good but the last one."""
        for kind in (list, tuple):
            fails(self, BadEntry, {"at": len(entries) - 1}, Journal, BOOK, kind(entries))
        fails(self, BadEntry, {"at": len(entries) - 1}, Journal(BOOK, entries[:-1]).then, entries[-1])

    def good(self, *entries):
        self.assertEqual(Journal(BOOK, entries).entries, entries)
        self.assertEqual(Journal(BOOK, entries[:-1]).then(entries[-1]).entries, entries)


class Entries(Judged, unittest.TestCase):
    def test_the_three_kinds(self):
        self.good(ROW)
        self.good(ROW, ("fix", 4, 9, -7, 11))
        self.good(ROW, ("gone", 4, 11))

    def test_things_of_another_kind(self):
        for thing in odd_values():
            # The first one is a good entry if it is first, and never behind another arrival.
            if thing != ("row", 0, "a", "k", 0, 0, 0):
                self.bad(thing)
            self.bad(ROW, thing)

    def test_an_entry_is_a_tuple(self):
        self.bad(list(ROW))
        self.bad(ROW, ["fix", 4, 9, -7, 11])
        self.bad(ROW, ["gone", 4, 11])

    def test_lengths(self):
        for length in range(7):
            self.bad(ROW[:length])
        self.bad((*ROW, 11))
        for entry in (("fix", 4, 11, 11, 11), ("gone", 4, 11)):
            self.good(ROW, entry)
            for length in range(len(entry)):
                self.bad(ROW, entry[:length])
            self.bad(ROW, (*entry, 11))

    def test_words(self):
        for word in ("Row", "rows", "", b"row", None, ("row",), 0):
            self.bad((word, *ROW[1:]))
            self.bad(ROW, (word, 4, 11))
            self.bad(ROW, (word, 4, 9, -7, 11))

    def test_ids(self):
        self.good(row(0))
        self.good(row(10 ** 40))
        for number in [-1, -10 ** 5000, *not_integers()]:
            self.bad(row(number))
            self.bad(row(1), row(0), ("fix", number, 0, 0, 0))
            self.bad(row(1), row(0), ("gone", number, 0))

    def test_streams(self):
        for stream in ("a", "b", "c"):
            self.good(row(0, stream=stream))
        for stream in ["d", "aa", *not_names()]:
            self.bad(row(0, stream=stream))

    def test_keys(self):
        for key in ("k", "a", "row", "abcdefgh"):
            self.good(row(0, key=key))
        for key in not_names():
            self.bad(row(0, key=key))

    def test_integers(self):
        self.good(row(0, amount=-10 ** 40))
        for thing in not_integers():
            for at in (4, 5, 6):
                self.bad((*ROW[:at], thing, *ROW[at + 1:]))
            for at in (2, 3, 4):
                fix = ("fix", 4, 11, 0, 11)
                self.bad(ROW, (*fix[:at], thing, *fix[at + 1:]))
            self.bad(ROW, ("gone", 4, thing))


class Kinds(unittest.TestCase):
    """Entries apart from a book: their streams may be any names."""

    def test_any_name_may_be_the_stream(self):
        for stream in ("a", "zz", "abcdefgh"):
            self.assertIs(is_entry(row(0, stream=stream)), True)
        for stream in not_names():
            self.assertIs(is_entry(row(0, stream=stream)), False)

    def test_any_thing_is_judged(self):
        for thing in odd_values():
            self.assertIs(is_entry(thing), thing in (("row", 0, "a", "k", 0, 0, 0), ("gone", 0, 0)))


class Good(Judged, unittest.TestCase):
    def test_arrivals_do_not_fall(self):
        self.good(row(0, 5, 5), row(1, 5, 5))
        self.good(row(0, 5, 5), row(1, 5, 6))
        self.bad(row(0, 5, 5), row(1, 4, 4))
        self.bad(row(0, 5, 5), row(1, 5, 6), ("fix", 1, 5, 0, 5))
        self.bad(row(0, 5, 5), row(1, 5, 6), ("gone", 1, 5))

    def test_a_moment_is_at_most_the_arrival(self):
        self.good(row(0, 5, 5))
        self.bad(row(0, 6, 5))
        self.good(row(0, -5, -5))
        self.bad(row(0, -4, -5))
        self.good(row(0, 5, 5), ("fix", 0, 6, 0, 6))
        self.bad(row(0, 5, 5), ("fix", 0, 7, 0, 6))

    def test_an_arrival_is_at_most_the_lateness_behind(self):
        for stream, late in LATES.items():
            self.good(row(0, 5, 5 + late, stream))
            self.bad(row(0, 5, 6 + late, stream))

    def test_an_id_is_used_once(self):
        self.bad(row(0), row(0))
        self.bad(row(0), row(0, stream="c", key="l"))
        self.bad(row(0), ("gone", 0, 0), row(0))
        self.bad(row(0), ("fix", 0, 0, 0, 0), row(0))

    def test_a_fix_needs_a_row_that_stands(self):
        self.bad(("fix", 0, 0, 0, 0))
        self.bad(row(0), ("fix", 1, 0, 0, 0))
        self.bad(row(0), ("gone", 0, 0), ("fix", 0, 0, 0, 0))
        self.good(row(0), ("fix", 0, 0, 0, 0), ("fix", 0, 0, 0, 0))

    def test_a_gone_needs_a_row_that_stands(self):
        self.bad(("gone", 0, 0))
        self.bad(row(0), ("gone", 1, 0))
        self.bad(row(0), ("gone", 0, 0), ("gone", 0, 0))

    def test_a_fix_comes_till_the_old_moment_is_settled(self):
        self.good(row(0, 5, 5), ("fix", 0, 8, 0, 8))
        self.bad(row(0, 5, 5), ("fix", 0, 9, 0, 9))
        self.good(row(0, 5, 5), ("fix", 0, 8, 0, 8), ("fix", 0, 9, 0, 11))
        self.bad(row(0, 5, 5), ("fix", 0, 8, 0, 8), ("fix", 0, 9, 0, 12))
        self.bad(row(0, 5, 5, "b"), ("fix", 0, 6, 0, 6))
        self.good(row(0, 5, 5, "b"), ("fix", 0, 5, 9, 5))

    def test_a_fix_may_make_the_old_moment_earlier(self):
        self.good(row(0, 5, 5), ("fix", 0, 3, 0, 6), ("gone", 0, 6))
        self.bad(row(0, 5, 5), ("fix", 0, 3, 0, 6), ("gone", 0, 7))
        self.bad(row(0, 5, 5), ("fix", 0, 3, 0, 6), ("fix", 0, 7, 0, 7))

    def test_a_new_moment_may_be_heard_then(self):
        self.good(row(0, 5, 5), ("fix", 0, 3, 0, 6))
        self.bad(row(0, 5, 5), ("fix", 0, 2, 0, 6))

    def test_a_gone_comes_till_the_moment_is_settled(self):
        self.good(row(0, 5, 5), ("gone", 0, 8))
        self.bad(row(0, 5, 5), ("gone", 0, 9))
        self.good(row(0, 5, 5, "b"), ("gone", 0, 5))
        self.bad(row(0, 5, 5, "b"), ("gone", 0, 6))

    def test_random_entries_as_the_model_tells(self):
        rng = random.Random(8)
        lates = {"a": 2, "b": 0, "c": 5}
        book = Book(lates)
        counts = {True: 0, False: 0}
        for _ in range(150):
            journal, now = Journal(book), 0
            for _ in range(16):
                now += rng.choice((0, 1, 1, 2))
                entry = random_entry(rng, lates, list(journal.entries), now)
                told = good(lates, list(journal.entries), entry)
                counts[told] += 1
                if told:
                    journal = journal.then(entry)
                else:
                    fails(self, BadEntry, {"at": len(journal)}, journal.then, entry)
        self.assertGreater(min(counts.values()), 500)


class Journals(unittest.TestCase):
    def test_without_entries(self):
        for journal in (Journal(BOOK), Journal(BOOK, ()), Journal(BOOK, [])):
            self.assertEqual(journal.entries, ())
            self.assertEqual(len(journal), 0)
            self.assertIsNone(journal.latest())
            self.assertEqual(journal.key_names(), [])
            self.assertEqual(journal.rows("a", "k"), [])

    def test_what_it_holds(self):
        entries = [row(3, 1, 2), row(1, 2, 2), ("gone", 3, 4)]
        journal = Journal(BOOK, entries)
        self.assertEqual(journal.book, BOOK)
        self.assertIs(type(journal.entries), tuple)
        self.assertEqual(journal.entries, tuple(entries))
        self.assertEqual(len(journal), 3)
        self.assertEqual(journal.latest(), 4)

    def test_books_of_another_kind_come_first(self):
        for thing in not_made_of(Book):
            fails(self, BadBook, {"value": thing}, Journal, thing)
            fails(self, BadBook, {"value": thing}, Journal, thing, 5)
            fails(self, BadBook, {"value": thing}, Journal, thing, [5])

    def test_entries_of_another_kind(self):
        for thing in odd_values():
            if not isinstance(thing, (list, tuple)):
                fails(self, BadEntry, {"at": -1}, Journal, BOOK, thing)

    def test_400_and_401_entries(self):
        entries = [row(number) for number in range(401)]
        journal = Journal(BOOK, entries[:400])
        self.assertEqual(len(journal), 400)
        fails(self, BadEntry, {"at": -1}, Journal, BOOK, entries)
        fails(self, BadEntry, {"at": -1}, Journal, BOOK, tuple(entries))
        fails(self, BadEntry, {"at": -1}, Journal, BOOK, [None] * 401)
        fails(self, BadEntry, {"at": 0}, Journal, BOOK, [None] * 400)
        fails(self, BadEntry, {"at": 400}, journal.then, entries[400])
        fails(self, BadEntry, {"at": 400}, journal.then, None)
        self.assertEqual(Journal(BOOK, entries[:399]).then(entries[399]), journal)

    def test_the_first_bad_one_counts(self):
        fails(self, BadEntry, {"at": 1}, Journal, BOOK, [row(0), row(0), None])
        fails(self, BadEntry, {"at": 1}, Journal, BOOK, [row(0), None, row(0)])

    def test_equal_journals(self):
        journal = Journal(BOOK, [row(0), row(1)])
        self.assertTrue(journal == Journal(Book(LATES), (row(0), row(1))))
        self.assertFalse(journal != Journal(Book(LATES), (row(0), row(1))))
        self.assertTrue(journal != Journal(BOOK, [row(1), row(0)]))
        self.assertTrue(journal != Journal(BOOK, [row(0)]))
        self.assertTrue(journal != Journal(Book({**LATES, "d": 0}), [row(0), row(1)]))
        for thing in odd_values():
            self.assertFalse(journal == thing)

    def test_then_leaves_the_journal_as_it_is(self):
        journal = Journal(BOOK, [row(0)])
        longer = journal.then(("gone", 0, 1))
        self.assertEqual(journal, Journal(BOOK, [row(0)]))
        self.assertEqual(journal.rows("a", "k"), [(0, 0, 1)])
        self.assertEqual(longer.rows("a", "k"), [])

    def test_a_list_that_was_handed_in_is_copied(self):
        entries = [row(0)]
        journal = Journal(BOOK, entries)
        entries.append(row(1))
        entries[0] = None
        self.assertEqual(journal.entries, (row(0),))

    def test_a_book_behind_its_dict(self):
        lates = {"a": 3}
        journal = Journal(Book(lates), [])
        lates["a"] = 0
        self.assertEqual(journal.then(row(0, 0, 3)).latest(), 3)


class Rows(unittest.TestCase):
    def test_ascending_with_the_last_moments_and_amounts(self):
        journal = Journal(BOOK, [
            row(9, 2, 3, amount=5), row(4, 2, 3, amount=6), row(5, 1, 3, amount=7), row(6, 3, 3, amount=8),
            ("fix", 5, 4, 70, 4), ("gone", 6, 4), ("fix", 5, 4, 71, 5)])
        self.assertEqual(journal.rows("a", "k"), [(2, 4, 6), (2, 9, 5), (4, 5, 71)])

    def test_of_the_stream_and_the_key_alone(self):
        journal = Journal(BOOK, [row(0), row(1, stream="b"), row(2, key="l"), row(3, stream="b", key="l")])
        self.assertEqual(journal.rows("a", "k"), [(0, 0, 1)])
        self.assertEqual(journal.rows("b", "l"), [(0, 3, 1)])
        self.assertEqual(journal.rows("c", "k"), [])
        self.assertEqual(journal.rows("a", "m"), [])

    def test_wrong_streams_and_keys(self):
        journal = Journal(BOOK, [row(0)])
        for thing in odd_values():
            if thing != "a":
                fails(self, BadName, {"value": thing}, journal.rows, thing, "k")
                fails(self, BadName, {"value": thing}, journal.rows, thing, 5)
        for thing in not_names():
            fails(self, BadName, {"value": thing}, journal.rows, "a", thing)

    def test_a_list_that_was_told_is_a_new_one(self):
        journal = Journal(BOOK, [row(0)])
        journal.rows("a", "k").clear()
        journal.key_names().clear()
        self.assertEqual(journal.rows("a", "k"), [(0, 0, 1)])
        self.assertEqual(journal.key_names(), ["k"])

    def test_key_names_of_all_row_entries(self):
        journal = Journal(BOOK, [row(0, key="z"), row(1, key="b"), row(2, key="z"), ("gone", 1, 0)])
        self.assertEqual(journal.key_names(), ["b", "z"])

    def test_random_journals_as_the_model_tells(self):
        rng = random.Random(11)
        lates = {"a": 2, "b": 0, "c": 5}
        for _ in range(60):
            journal, now = Journal(Book(lates)), 0
            for _ in range(25):
                now += rng.choice((0, 1))
                entry = random_entry(rng, lates, list(journal.entries), now)
                if good(lates, list(journal.entries), entry):
                    journal = journal.then(entry)
            found = standing(journal.entries)
            for stream in lates:
                for key in ("k", "l"):
                    told = [one[2:] for one in found if one[:2] == (stream, key)]
                    self.assertEqual(journal.rows(stream, key), told)
