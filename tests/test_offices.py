"""Several writers: offices [50], drafts [51], closing [52], taking back [53], and what follows [54]."""

import random
import unittest

from asofhall.books import Book
from asofhall.errors import BadBook, BadEntry, BadJournal, BadMoment, BadName, Busy, HallError, Idle, NothingDone, Stale
from asofhall.journals import Journal
from asofhall.offices import Office
from tests import models
from tests.ask_tests import row
from tests.helpers import errors_in_order, fails, not_integers, not_made_of, not_names, odd_values, picture

LATES = {"a": 3, "b": 0}
BOOK = Book(LATES)
START = Journal(BOOK, [row(0, "a", 1), row(1, "b", 2)])


def closed(office, writer, arrival, *entries):
    """Begins a draft of these entries, which have no arrivals, and closes it."""
    office.begin(writer)
    put(office, writer, entries)
    return office.close(writer, arrival)


def put(office, writer, entries):
    for word, *values in entries:
        {"row": office.row, "fix": office.fix, "gone": office.gone}[word](writer, *values)


class Offices(unittest.TestCase):
    def test_journals(self):
        self.assertEqual(Office(BOOK).journal, Journal(BOOK))
        self.assertEqual(Office(BOOK, None).journal, Journal(BOOK))
        self.assertEqual(Office(BOOK, START).journal, START)
        self.assertEqual(Office(Book({"b": 0, "a": 3}), START).journal, START)
        self.assertEqual(Office(BOOK).writers(), [])

    def test_wrong_books_and_journals(self):
        errors_in_order(self, Office, (BOOK, START), [
            (0, LATES, BadBook, {"value": LATES}), (1, BOOK, BadJournal, {"value": BOOK})])
        for thing in not_made_of(Book):
            fails(self, BadBook, {"value": thing}, Office, thing)
            fails(self, BadBook, {"value": thing}, Office, thing, 0)
        for thing in not_made_of((Journal, type(None))):
            fails(self, BadJournal, {"value": thing}, Office, BOOK, thing)
        for lates in ({"a": 3}, {"a": 3, "b": 1}, {"a": 3, "b": 0, "c": 0}):
            other = Journal(Book(lates))
            fails(self, BadJournal, {"value": other}, Office, BOOK, other)


class Drafts(unittest.TestCase):
    def test_entries_wait_in_drafts(self):
        office = Office(BOOK, START)
        self.assertIsNone(office.begin("ann"))
        self.assertEqual((office.draft("ann"), office.writers()), ([], ["ann"]))
        self.assertIsNone(office.row("ann", 2, "a", "k", 3, 7))
        self.assertIsNone(office.fix("ann", 2, 4, 8))
        self.assertIsNone(office.begin("abe"))
        self.assertIsNone(office.gone("ann", 1))
        self.assertIsNone(office.gone("abe", 0))
        self.assertEqual(office.draft("ann"), [
            ("row", 2, "a", "k", 3, 7, None), ("fix", 2, 4, 8, None), ("gone", 1, None)])
        self.assertEqual(office.draft("abe"), [("gone", 0, None)])
        self.assertEqual((office.writers(), office.journal), (["abe", "ann"], START))

    def test_whether_an_entry_will_be_good_is_not_looked_at(self):
        office = Office(BOOK)
        office.begin("w")
        put(office, "w", [("gone", 77), ("fix", 77, -10 ** 30, 10 ** 30), ("row", 0, "b", "abcdefgh", 10 ** 30, 0), ("row", 0, "b", "k", 1, 1)])
        self.assertEqual(len(office.draft("w")), 4)

    def test_dropping(self):
        office = Office(BOOK, START)
        office.begin("w")
        office.gone("w", 0)
        office.begin("v")
        self.assertIsNone(office.drop("w"))
        self.assertEqual((office.writers(), office.journal), (["v"], START))
        fails(self, Idle, {"writer": "w"}, office.drop, "w")
        fails(self, NothingDone, {}, office.undo)
        office.begin("w")
        self.assertEqual(office.draft("w"), [])

    def test_a_writer_has_one_draft(self):
        office = Office(BOOK)
        for thing in not_names():
            fails(self, BadName, {"value": thing}, office.begin, thing)
        office.begin("w")
        office.gone("w", 0)
        fails(self, Busy, {"writer": "w"}, office.begin, "w")
        self.assertEqual(office.draft("w"), [("gone", 0, None)])

    def test_idle_writers(self):
        office = Office(BOOK)
        office.begin("w")
        for thing in [*odd_values(), "ww", "v"]:
            for call, more in [
                    (office.row, (0, "a", "k", 0, 0)), (office.row, (-1, "z", "K", None, None)), (office.fix, (0, 0, 0)), (office.fix, (None,) * 3),
                    (office.gone, (0,)), (office.gone, ("a",)), (office.draft, ()), (office.drop, ()), (office.close, (0,)),
                    (office.close, (None,))]:
                fails(self, Idle, {"writer": thing}, call, thing, *more)

    def test_drafts_of_20_entries_and_of_21(self):
        office = Office(BOOK)
        office.begin("w")
        for number in range(20):
            office.row("w", number, "a", "k", number, 0)
        for call, more in [(office.row, (20, "a", "k", 0, 0)), (office.fix, (0, 0, 0)), (office.gone, (0,)), (office.gone, (None,))]:
            fails(self, BadEntry, {"at": 20}, call, "w", *more)
        self.assertEqual(len(office.draft("w")), 20)
        office.begin("v")
        office.gone("v", 0)
        self.assertEqual(len(office.draft("v")), 1)

    def test_values_of_other_kinds(self):
        office = Office(BOOK)
        office.begin("w")
        not_naturals = [thing for thing in odd_values() if type(thing) is not int or thing < 0]
        for many in range(2):
            for thing in not_naturals:
                fails(self, BadEntry, {"at": many}, office.row, "w", thing, "a", "k", 0, 0)
                fails(self, BadEntry, {"at": many}, office.fix, "w", thing, 0, 0)
                fails(self, BadEntry, {"at": many}, office.gone, "w", thing)
            for thing in not_integers():
                fails(self, BadEntry, {"at": many}, office.row, "w", 0, "a", "k", thing, 0)
                fails(self, BadEntry, {"at": many}, office.row, "w", 0, "a", "k", 0, thing)
                fails(self, BadEntry, {"at": many}, office.fix, "w", 0, thing, 0)
                fails(self, BadEntry, {"at": many}, office.fix, "w", 0, 0, thing)
            for thing in not_names():
                fails(self, BadEntry, {"at": many}, office.row, "w", 0, "a", thing, 0, 0)
            for thing in [*not_names(), "c", "k", "aa"]:
                fails(self, BadEntry, {"at": many}, office.row, "w", 0, thing, "k", 0, 0)
            office.gone("w", 5)

    def test_lists_are_new_ones(self):
        office = Office(BOOK)
        office.begin("w")
        office.gone("w", 5)
        office.writers().clear()
        office.draft("w").clear()
        self.assertEqual((office.writers(), office.draft("w")), (["w"], [("gone", 5, None)]))


class Closing(unittest.TestCase):
    def test_all_entries_get_the_arrival(self):
        office = Office(BOOK, START)
        office.begin("w")
        put(office, "w", [("row", 2, "a", "k", 3, 7), ("fix", 2, 4, 8), ("gone", 0), ("row", 3, "b", "l", 4, 1)])
        self.assertEqual(office.close("w", 4), 4)
        self.assertEqual(office.journal, Journal(BOOK, [
            *START.entries, ("row", 2, "a", "k", 3, 7, 4), ("fix", 2, 4, 8, 4), ("gone", 0, 4), ("row", 3, "b", "l", 4, 1, 4)]))
        self.assertEqual(office.writers(), [])
        fails(self, Idle, {"writer": "w"}, office.close, "w", 4)
        fails(self, Idle, {"writer": "w"}, office.draft, "w")

    def test_an_empty_draft(self):
        office = Office(BOOK, START)
        office.begin("w")
        self.assertEqual(office.close("w", -100), 0)
        self.assertEqual((office.journal, office.writers()), (START, []))
        self.assertIsNone(office.undo())
        self.assertEqual(office.journal, START)
        fails(self, NothingDone, {}, office.undo)

    def test_the_first_entry_that_is_not_good(self):
        for entries, arrival, at in [
                ([("row", 2, "a", "k", 3, 0)], 1, 0), ([("row", 2, "a", "k", 3, 0), ("row", 2, "a", "k", 3, 0)], 4, 1),
                ([("row", 2, "a", "k", 3, 0), ("row", 3, "a", "k", 4, 0), ("row", 4, "b", "k", 3, 0), ("gone", 77)], 4, 2),
                ([("gone", 0), ("gone", 0)], 3, 1), ([("gone", 1)], 3, 0), ([("fix", 0, 2, 0), ("fix", 0, 6, 0)], 5, 0),
                ([("fix", 0, 2, 0), ("fix", 0, 4, 0), ("row", 9, "a", "k", 5, 0)], 4, 2), ([("row", 0, "a", "k", 2, 0)], 2, 0)]:
            office = Office(BOOK, START)
            office.begin("w")
            put(office, "w", entries)
            before = picture(office)
            fails(self, BadEntry, {"at": at}, office.close, "w", arrival)
            self.assertEqual(picture(office), before)
            self.assertEqual(office.draft("w"), [(*entry, None) for entry in entries])
            self.assertEqual(office.journal, START)
        # The draft is still open, so it can be closed at another arrival.
        office = Office(BOOK, START)
        office.begin("w")
        office.row("w", 2, "b", "k", 5, 0)
        fails(self, BadEntry, {"at": 0}, office.close, "w", 4)
        self.assertEqual(office.close("w", 5), 1)

    def test_the_400th_entry_and_the_401st(self):
        journal = Journal(BOOK, [row(number, "b", number) for number in range(398)])
        office = Office(BOOK, journal)
        office.begin("w")
        put(office, "w", [("row", 398, "b", "k", 500, 0), ("row", 399, "b", "k", 500, 0), ("row", 400, "b", "k", 500, 0)])
        fails(self, BadEntry, {"at": 2}, office.close, "w", 500)
        office.drop("w")
        self.assertEqual(closed(office, "w", 500, ("row", 398, "b", "k", 500, 0), ("row", 399, "b", "k", 500, 0)), 2)
        office.begin("w")
        self.assertEqual(office.close("w", 0), 0)
        office.begin("w")
        office.gone("w", 399)
        fails(self, BadEntry, {"at": 0}, office.close, "w", 500)

    def test_stale_ids(self):
        office = Office(BOOK, START)
        office.begin("w")
        put(office, "w", [("row", 9, "a", "k", 3, 0), ("gone", 0), ("fix", 5, 1, 1)])
        office.begin("v")
        put(office, "v", [("fix", 0, 2, 5), ("row", 5, "a", "k", 2, 0)])
        office.close("v", 3)
        before = picture(office)
        fails(self, Stale, {"id": 0}, office.close, "w", 4)
        self.assertEqual(picture(office), before)
        office.drop("w")
        self.assertEqual(closed(office, "w", 4, ("gone", 0), ("fix", 5, 1, 1)), 2)

    def test_each_case_in_which_a_draft_is_stale(self):
        # The same row comes twice, is fixed by another one, is taken back by another one.
        for mine, theirs in [
                (("row", 2, "a", "k", 2, 0), ("row", 2, "a", "k", 3, 0)), (("fix", 0, 2, 0), ("fix", 0, 2, 0)), (("fix", 0, 2, 0), ("gone", 0)),
                (("gone", 0), ("fix", 0, 2, 0)), (("gone", 0), ("gone", 0))]:
            office = Office(BOOK, START)
            office.begin("w")
            put(office, "w", [mine])
            closed(office, "v", 3, ("row", 7, "b", "k", 3, 0), theirs)
            fails(self, Stale, {"id": mine[1]}, office.close, "w", 3)
            # What was taken back is not there any more.
            office.undo()
            self.assertEqual(office.close("w", 3), 1)

    def test_what_was_put_ahead_of_the_begin_is_not_stale(self):
        office = Office(BOOK, START)
        closed(office, "v", 3, ("fix", 0, 2, 5))
        office.begin("w")
        office.fix("w", 0, 3, 6)
        closed(office, "v", 3, ("row", 7, "b", "k", 3, 0))
        self.assertEqual(office.close("w", 3), 1)

    def test_what_is_put_again_behind_the_begin_is_stale(self):
        # An entry is taken back and put again at the same place, behind the begin.
        office = Office(BOOK, START)
        closed(office, "v", 3, ("fix", 0, 2, 5))
        office.begin("w")
        office.fix("w", 0, 3, 6)
        office.undo()
        closed(office, "v", 3, ("fix", 0, 2, 5))
        fails(self, Stale, {"id": 0}, office.close, "w", 3)
        office.undo()
        self.assertEqual(office.close("w", 3), 1)
        self.assertEqual(len(office.journal), 3)

    def test_the_rest_of_a_draft_does_not_make_it_stale(self):
        # When an entry was put into the draft has no meaning, only when the draft was begun.
        office = Office(BOOK, START)
        office.begin("w")
        closed(office, "v", 3, ("fix", 0, 2, 5))
        office.gone("w", 0)
        fails(self, Stale, {"id": 0}, office.close, "w", 3)

    def test_one_error_ahead_of_the_other(self):
        office = Office(BOOK, START)
        office.begin("w")
        put(office, "w", [("gone", 77), ("fix", 0, 2, 0)])
        closed(office, "v", 3, ("fix", 0, 2, 5))
        errors_in_order(self, office.close, ("w", 3), [
            (0, "u", Idle, {"writer": "u"}), (1, None, BadMoment, {"value": None}), (0, "w", Stale, {"id": 0})])
        for thing in not_integers():
            fails(self, BadMoment, {"value": thing}, office.close, "w", thing)
        office.undo()
        fails(self, BadEntry, {"at": 0}, office.close, "w", 3)


class TakingBack(unittest.TestCase):
    def test_down_to_nothing_and_once_more(self):
        office = Office(BOOK, START)
        pictures = []
        for number, many in enumerate((2, 0, 1)):
            pictures.append(office.journal)
            closed(office, "w", 5 + number, *[("row", 10 * number + at + 10, "b", "k", 5 + number, 0) for at in range(many)])
        self.assertEqual(len(office.journal), 5)
        office.begin("v")
        for journal in reversed(pictures):
            self.assertIsNone(office.undo())
            self.assertEqual(office.journal, journal)
            self.assertEqual(office.writers(), ["v"])
        for _ in range(2):
            fails(self, NothingDone, {}, office.undo)
        self.assertEqual(office.journal, START)

    def test_what_open_drafts_stand_on(self):
        office = Office(BOOK)
        closed(office, "v", 1, ("row", 0, "a", "k", 1, 0))
        office.begin("w")
        office.fix("w", 0, 2, 0)
        office.undo()
        fails(self, BadEntry, {"at": 0}, office.close, "w", 3)
        self.assertEqual(office.draft("w"), [("fix", 0, 2, 0, None)])
        # The row comes again, behind the begin of the draft.
        closed(office, "v", 1, ("row", 0, "a", "k", 1, 0))
        fails(self, Stale, {"id": 0}, office.close, "w", 3)

    def test_what_other_closes_stand_on_goes_behind_them(self):
        office = Office(BOOK)
        closed(office, "v", 1, ("row", 0, "a", "k", 1, 0))
        closed(office, "w", 2, ("fix", 0, 2, 0))
        office.undo()
        self.assertEqual(office.journal.rows("a", "k"), [(1, 0, 0)])
        office.undo()
        self.assertEqual(office.journal.rows("a", "k"), [])

    def test_the_draft_does_not_come_back(self):
        office = Office(BOOK)
        closed(office, "w", 1, ("row", 0, "a", "k", 1, 0))
        office.undo()
        fails(self, Idle, {"writer": "w"}, office.draft, "w")
        self.assertEqual(office.writers(), [])


class SideBySide(unittest.TestCase):
    """Offices against a model that notes when each entry was put and when each draft was begun."""

    def test_random_deeds(self):
        rng = random.Random(131)
        self.counts = {}
        for _ in range(150):
            self.follow(rng)
        for word in ("close", "undo", "Stale", "BadEntry", "Idle", "Busy", "NothingDone"):
            self.assertGreater(self.counts.get(word, 0), 20, word)

    def follow(self, rng):
        office, drafts, closes, clock = Office(BOOK), {}, [], 0
        for _ in range(120):
            clock += 1
            writer = rng.choice(("u", "v", "w"))
            word = rng.choice(("begin", "begin", "begin", "put", "put", "close", "close", "drop", "undo"))
            before = picture(office)
            try:
                told = self.deed(office, rng, writer, word, clock)
            except HallError as caught:
                found = type(caught).__name__
                self.assertEqual(picture(office), before)
                self.assertEqual((found, *vars(caught).values()), self.expected(drafts, closes, writer, word))
            else:
                self.assertEqual(self.expected(drafts, closes, writer, word), None)
                self.done(office, drafts, closes, writer, word, clock, told)
                found = word
            self.counts[found] = self.counts.get(found, 0) + 1
            entries = [entry for _, closed_ones in closes for entry in closed_ones]
            self.assertEqual(list(office.journal.entries), entries)
            self.assertEqual(office.writers(), sorted(drafts))
            for one, (_, entries) in drafts.items():
                self.assertEqual(office.draft(one), entries)
        self.one_at_a_time(closes)

    def deed(self, office, rng, writer, word, clock):
        self.arrival = 1 + clock // 30
        if word == "begin":
            return office.begin(writer)
        if word == "put":
            moment, number = self.arrival - rng.randrange(2), rng.randrange(3)
            row_entry, fix = ("row", number, "a", "k", moment, 0), ("fix", number, moment, 0)
            self.entry = rng.choice([row_entry, row_entry, fix, fix, fix, ("gone", number)])
            return put(office, writer, [self.entry])
        if word == "close":
            return office.close(writer, self.arrival)
        if word == "drop":
            return office.drop(writer)
        return office.undo()

    def expected(self, drafts, closes, writer, word):
        """The error of a deed, as a tuple, or None."""
        if word == "undo":
            return None if closes else ("NothingDone",)
        if word == "begin":
            return ("Busy", writer) if writer in drafts else None
        if writer not in drafts:
            return ("Idle", writer)
        begun, draft = drafts[writer]
        if word == "put":
            return ("BadEntry", len(draft)) if len(draft) == 20 else None
        if word != "close":
            return None
        later = {entry[1] for time, entries in closes if time > begun for entry in entries}
        for entry in draft:
            if entry[1] in later:
                return ("Stale", entry[1])
        ahead = [entry for _, entries in closes for entry in entries]
        for at, entry in enumerate(draft):
            if not models.good(LATES, ahead, (*entry[:-1], self.arrival)):
                return ("BadEntry", at)
            ahead.append((*entry[:-1], self.arrival))
        return None

    def done(self, office, drafts, closes, writer, word, clock, told):
        if word == "begin":
            drafts[writer] = (clock, [])
        elif word == "put":
            drafts[writer][1].append((*self.entry, None))
        elif word == "drop":
            del drafts[writer]
        elif word == "undo":
            closes.pop()
        else:
            _, draft = drafts.pop(writer)
            closes.append((clock, [(*entry[:-1], self.arrival) for entry in draft]))
            self.assertEqual(told, len(draft))
            return
        self.assertIsNone(told)

    def one_at_a_time(self, closes):
        """The same drafts, each opened just ahead of its close, give the same journal."""
        office = Office(BOOK)
        entries = [entry for _, closed_ones in closes for entry in closed_ones]
        for _, closed_ones in closes:
            arrival = closed_ones[0][-1] if closed_ones else 0
            closed(office, "w", arrival, *[entry[:-1] for entry in closed_ones])
        self.assertEqual(office.journal, Journal(BOOK, entries))


if __name__ == "__main__":
    unittest.main()
