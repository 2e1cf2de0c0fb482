"""Replays [60], and what journals of single keys tell [61]."""

import itertools
import random
import unittest

from asofhall.books import Book
from asofhall.bulletins import bulletins
from asofhall.errors import BadAsk, BadBook, BadEntry, BadJournal, BadMoment, BadName, BadTicks
from asofhall.journals import Journal
from asofhall.moments import Last
from asofhall.replays import by_keys, cut, joined, replay
from tests import models
from tests.ask_tests import ask_errors, random_asks, random_ticks, row
from tests.helpers import errors_in_order, fails, not_integers, not_made_of, picture
from tests.pair_tests import A, NOW

BOOK = Book({"a": 3, "b": 0})
ENTRIES = [row(0, "a", 1), row(1, "b", 2, key="l"), ("fix", 0, 2, 5, 3), row(2, "a", 2, 3)]
JOURNAL = Journal(BOOK, ENTRIES)


def journals_of(rng, entries, lates, many):
    """The entries dealt out to so many journals, those of a row all to the same one."""
    owner = {}
    for entry in entries:
        owner.setdefault(entry[1], rng.randrange(many))
    return [Journal(Book(lates), [entry for entry in entries if owner[entry[1]] == at]) for at in range(many)]


class Cutting(unittest.TestCase):
    def test_what_is_heard_and_what_is_behind(self):
        for h, many in [(0, 0), (1, 1), (2, 2), (3, 4), (4, 4), (-10 ** 30, 0), (10 ** 30, 4)]:
            before = picture(JOURNAL)
            told = cut(JOURNAL, h)
            self.assertIs(type(told), tuple)
            self.assertEqual(told, (Journal(BOOK, ENTRIES[:many]), ENTRIES[many:]))
            self.assertIs(type(told[1]), list)
            told[1].clear()
            self.assertEqual(picture(JOURNAL), before)
        self.assertEqual(cut(Journal(BOOK), 5), (Journal(BOOK), []))

    def test_errors(self):
        errors_in_order(self, cut, (JOURNAL, 0), [(0, BOOK, BadJournal, {"value": BOOK}), (1, True, BadMoment, {"value": True})])
        for thing in not_made_of(Journal):
            fails(self, BadJournal, {"value": thing}, cut, thing, 0)
        for thing in not_integers():
            fails(self, BadMoment, {"value": thing}, cut, JOURNAL, thing)


class Joining(unittest.TestCase):
    def test_from_left_to_right(self):
        one, other = Journal(BOOK, [row(0, "b", 1), row(1, "b", 2)]), Journal(BOOK, [row(5, "b", 1), row(4, "b", 2)])
        third = Journal(BOOK, [row(7, "a", 1)])
        self.assertEqual(joined([one]), one)
        self.assertEqual(joined((other, one)).entries, (row(5, "b", 1), row(0, "b", 1), row(4, "b", 2), row(1, "b", 2)))
        self.assertEqual(joined([third, one, other]), (third | one) | other)
        self.assertEqual([entry[1] for entry in joined([other, third, one]).entries], [5, 7, 0, 4, 1])

    def test_1_6_and_7_journals(self):
        many = [Journal(BOOK, [row(number, "b", 9 - number)]) for number in range(7)]
        self.assertEqual(joined(many[:1]), many[0])
        self.assertEqual([entry[1] for entry in joined(tuple(many[:6])).entries], [5, 4, 3, 2, 1, 0])
        for thing in (many, tuple(many), [], (), [JOURNAL] * 7):
            fails(self, BadJournal, {"value": thing}, joined, thing)

    def test_as_the_operator_does(self):
        rng = random.Random(161)
        for _ in range(60):
            lates = {"a": rng.randrange(4), "b": rng.randrange(3)}
            entries = models.random_entries(rng, lates, rng.randrange(25))
            many = journals_of(rng, entries, lates, rng.randrange(1, 7))
            before = picture(many)
            whole = many[0]
            for journal in many[1:]:
                whole = whole | journal
            self.assertEqual(joined(many), whole)
            self.assertEqual(picture(many), before)
            self.assertEqual(sorted(whole.entries), sorted(entries))

    def test_errors(self):
        for thing in not_made_of((list, tuple)):
            fails(self, BadJournal, {"value": thing}, joined, thing)
        for thing in not_made_of(Journal):
            fails(self, BadJournal, {"value": [JOURNAL, thing]}, joined, [JOURNAL, thing])
            # A thing that is no journal is told ahead of books and entries.
            row_of = (JOURNAL, Journal(Book({"a": 0})), thing)
            fails(self, BadJournal, {"value": row_of}, joined, row_of)
        other = Book({"a": 3})
        fails(self, BadBook, {"value": other}, joined, [JOURNAL, Journal(other), JOURNAL])
        fails(self, BadEntry, {"at": 1}, joined, [JOURNAL, JOURNAL, Journal(other)])
        fails(self, BadEntry, {"at": 2}, joined, [JOURNAL, Journal(BOOK, [row(0, "a", 2)]), Journal(other)])
        long = Journal(BOOK, [row(number, "b", 9) for number in range(399)])
        one, two = Journal(BOOK, [row(900, "b", 9)]), Journal(BOOK, [row(901, "b", 9)])
        self.assertEqual(len(joined([long, one])), 400)
        fails(self, BadEntry, {"at": 400}, joined, [long, one, two])


class Keys(unittest.TestCase):
    def test_the_journal_of_each_key(self):
        self.assertEqual(by_keys(Journal(BOOK)), {})
        journal = Journal(BOOK, [row(0, "a", 1, key="zz"), row(1, "b", 1, key="b"), row(2, "b", 1, key="ab"), ("gone", 0, 2)])
        found = by_keys(journal)
        self.assertEqual(list(found), ["ab", "b", "zz"])
        self.assertEqual(found, {key: journal.only(key) for key in ("zz", "b", "ab")})
        self.assertEqual(found["zz"].entries, (row(0, "a", 1, key="zz"), ("gone", 0, 2)))
        found.clear()
        self.assertEqual(len(by_keys(journal)), 3)
        fails(self, BadJournal, {"value": None}, by_keys, None)

    def test_joined_again_they_are_as_the_journal_itself(self):
        rng = random.Random(162)
        for _ in range(80):
            lates = {"a": rng.randrange(4), "b": rng.randrange(3)}
            book = Book(lates)
            journal = Journal(book, models.random_entries(rng, lates, rng.randrange(25)))
            parts = list(by_keys(journal).values())
            asks, ticks = random_asks(rng, 3), random_ticks(rng, 6, 20)
            for order in itertools.permutations(parts):
                whole = joined(order) if order else journal
                for h in range(-1, 25, 3):
                    for stream, key in itertools.product("ab", "klm"):
                        self.assertEqual(whole.heard(h).rows(stream, key), journal.heard(h).rows(stream, key))
                self.assertEqual(bulletins(whole, asks, ticks), bulletins(journal, asks, ticks))

    def test_bulletins_hang_on_the_entries_of_the_key_alone(self):
        rng = random.Random(163)
        for _ in range(60):
            lates = {"a": rng.randrange(4), "b": rng.randrange(3)}
            journal = Journal(Book(lates), models.random_entries(rng, lates, rng.randrange(25)))
            asks, ticks = random_asks(rng, 3), random_ticks(rng, 6, 20)
            told = bulletins(journal, asks, ticks)
            for name, ask in asks.items():
                alone = bulletins(journal.only(ask[1]), {name: ask}, ticks)
                self.assertEqual(alone, [one for one in told if one[2] == name])


class Replaying(unittest.TestCase):
    def test_the_bulletins_from_a_tick_on(self):
        rng = random.Random(164)
        some = 0
        for _ in range(80):
            lates = {"a": rng.randrange(4), "b": rng.randrange(3)}
            journal = Journal(Book(lates), models.random_entries(rng, lates, rng.randrange(25)))
            asks, ticks = random_asks(rng, 4), random_ticks(rng, 8, 20)
            told = bulletins(journal, asks, ticks)
            for since in range(-2, 22):
                before = picture([journal, asks, ticks])
                found = replay(journal, asks, ticks, since)
                self.assertEqual(picture([journal, asks, ticks]), before)
                self.assertEqual(found, [one for one in told if one[1] >= since])
                some += 0 < len(found) < len(told)
        self.assertGreater(some, 50)

    def test_a_tick_just_at_since(self):
        told = [("told", 3, "x", None, "open"), ("closed", 6, "x", None, "final")]
        for since, many in [(3, 0), (4, 1), (6, 1), (7, 2), (-10 ** 30, 0), (10 ** 30, 2)]:
            self.assertEqual(replay(Journal(BOOK), {"x": (A, "k", 3)}, [3, 4, 6], since), told[many:])

    def test_errors(self):
        asks = {"x": (A, "k", 3)}
        errors_in_order(self, replay, (JOURNAL, asks, [3], 0), [
            (0, None, BadJournal, {"value": None}), (1, {"x": A}, BadAsk, {"name": "x"}), (2, [3, 3], BadTicks, {"at": 1}),
            (1, {"x": (Last("z", NOW), "k", 0)}, BadName, {"value": "z"}), (3, False, BadMoment, {"value": False})])
        for thing in not_made_of(Journal):
            fails(self, BadJournal, {"value": thing}, replay, thing, asks, [], 0)
        ask_errors(self, lambda asks: replay(JOURNAL, asks, None, None))
        for thing in not_made_of((list, tuple)):
            fails(self, BadTicks, {"at": -1}, replay, JOURNAL, asks, thing, None)
        for thing in not_integers():
            fails(self, BadMoment, {"value": thing}, replay, JOURNAL, asks, [], thing)


if __name__ == "__main__":
    unittest.main()
