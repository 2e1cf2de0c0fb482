"""Servers [49]."""

import random
import unittest

from asofhall.amounts import Gap, Number
from asofhall.books import Book
from asofhall.bulletins import bulletins
from asofhall.errors import BadAsk, BadBook, BadEntry, BadMoment, BadName, NothingDone
from asofhall.journals import Journal
from asofhall.moments import Last, Next
from asofhall.servers import Server
from tests import models
from tests.ask_tests import ask_errors, random_asks, row
from tests.helpers import errors_in_order, fails, not_integers, not_made_of, odd_values, picture
from tests.pair_tests import A, B, NOW

LATES = {"a": 3, "b": 0}
BOOK = Book(LATES)
ASKS = {"x": (A, "k", 3), "b": (Number("a", NOW), "k", 5)}


class Serving(unittest.TestCase):
    def test_step_by_step(self):
        server = Server(BOOK, ASKS)
        self.assertEqual(server.journal, Journal(BOOK))
        self.assertEqual((server.told("x"), server.told("b"), server.unclosed()), (None, None, ["b", "x"]))
        self.assertIsNone(server.feed(row(0, "a", 1)))
        self.assertIsNone(server.feed(row(1, "b", 1, amount=9)))
        self.assertEqual(server.journal, Journal(BOOK, [row(0, "a", 1), row(1, "b", 1, amount=9)]))
        self.assertEqual(server.hear(2), [])
        self.assertEqual(server.hear(3), [("told", 3, "x", 1, "open")])
        self.assertEqual((server.told("x"), server.told("b")), (("told", 3, "x", 1, "open"), None))
        server.feed(row(2, "a", 2, 4, amount=7))
        self.assertEqual(server.told("x"), ("told", 3, "x", 1, "open"))
        self.assertEqual(server.hear(5), [("told", 5, "b", 7, "open"), ("mended", 5, "x", 2, "open")])
        self.assertEqual(server.unclosed(), ["b", "x"])
        self.assertEqual(server.hear(6), [("closed", 6, "x", 2, "final")])
        self.assertEqual((server.told("x"), server.unclosed()), (("closed", 6, "x", 2, "final"), ["b"]))
        self.assertEqual(server.hear(7), [])
        server.feed(row(3, "a", 5, 8, amount=8))
        self.assertEqual(server.hear(100), [("mended", 100, "b", 8, "final")])
        self.assertEqual(server.unclosed(), [])
        self.assertEqual(server.hear(101), [])

    def test_undoing_down_to_nothing_and_once_more(self):
        server = Server(BOOK, ASKS)
        deeds = [(server.feed, row(0, "a", 1)), (server.hear, 3), (server.feed, row(1, "b", 4)), (server.feed, row(2, "a", 2, 4)),
                 (server.hear, 5), (server.hear, 9), (server.feed, row(3, "b", 10)), (server.hear, 10)]
        for _ in range(2):
            pictures = []
            for deed, given in deeds:
                pictures.append(picture(server))
                deed(given)
            for before in reversed(pictures):
                self.assertIsNone(server.undo())
                self.assertEqual(picture(server), before)
            fails(self, NothingDone, {}, server.undo)

    def test_what_was_undone_may_be_done_otherwise(self):
        server = Server(BOOK, ASKS)
        server.feed(row(0, "a", 1))
        server.hear(3)
        fails(self, BadEntry, {"at": 1}, server.feed, row(1, "a", 3))
        fails(self, BadMoment, {"value": 3}, server.hear, 3)
        server.undo()
        server.feed(row(1, "a", 3))
        self.assertEqual(server.hear(3), [("told", 3, "x", 3, "open")])
        server.undo()
        self.assertIsNone(server.told("x"))
        server.undo()
        self.assertEqual(server.hear(3), [("told", 3, "x", 1, "open")])

    def test_as_bulletins_tell(self):
        rng = random.Random(121)
        for _ in range(20):
            lates = {"a": rng.randrange(5), "b": rng.randrange(3)}
            book, asks = Book(lates), random_asks(rng, 4)
            self.followed(rng, book, asks, models.random_entries(rng, lates, rng.randrange(30)))

    def followed(self, rng, book, asks, entries):
        """Feeds the entries with ticks and undos, and holds all that is told against bulletins."""
        server = Server(book, asks)
        before, fed, ticks = [], [], []
        while True:
            told = bulletins(Journal(book, fed), asks, ticks)
            self.assertEqual(server.journal, Journal(book, fed))
            for name in asks:
                self.assertEqual(server.told(name), ([None] + [one for one in told if one[2] == name])[-1])
            closed = {one[2] for one in told if one[4] == "final"}
            self.assertEqual(server.unclosed(), sorted(set(asks) - closed))
            if before and rng.randrange(5) == 0:
                fed, ticks = before.pop()
                server.undo()
                continue
            last = max([-1, *[entry[-1] for entry in fed], *[h + 1 for h in ticks]])
            behind = entries[len(fed):len(fed) + 1]
            if not behind and last > 25:
                break
            before.append((fed, ticks))
            if behind and behind[0][-1] >= last and rng.randrange(3):
                fed = [*fed, behind[0]]
                server.feed(behind[0])
                continue
            h = last + rng.randrange(3)
            if behind and h >= behind[0][-1]:
                h = max(last, behind[0][-1] - 1)
            if behind and h >= behind[0][-1]:
                fed = [*fed, behind[0]]
                server.feed(behind[0])
                continue
            ticks = [*ticks, h]
            new = bulletins(Journal(book, fed), asks, ticks)[len(told):]
            self.assertEqual(server.hear(h), new)

    def test_more_ticks_than_sixty(self):
        server = Server(BOOK, {"x": (NOW, "k", 70), "y": (Next("b", NOW), "k", 0)})
        told = [server.hear(h) for h in range(100)]
        self.assertEqual(told[0], [("told", 0, "y", None, "open")])
        self.assertEqual(told[70], [("told", 70, "x", 70, "final")])
        self.assertEqual(sum(len(one) for one in told), 2)
        for _ in range(100):
            server.undo()
        fails(self, NothingDone, {}, server.undo)

    def test_asks_are_copied_and_lists_new(self):
        asks = {"x": (A, "k", 3)}
        server = Server(BOOK, asks)
        asks["y"] = asks["x"]
        del asks["x"]
        self.assertEqual(server.unclosed(), ["x"])
        server.unclosed().clear()
        server.hear(3).clear()
        self.assertEqual((server.unclosed(), server.told("x")), (["x"], ("told", 3, "x", None, "open")))


class Wrong(unittest.TestCase):
    def test_making_one(self):
        errors_in_order(self, Server, (BOOK, ASKS), [
            (0, LATES, BadBook, {"value": LATES}), (1, {"x": A}, BadAsk, {"name": "x"}),
            (1, {"b": (Last("z", NOW), "k", 0), "x": (Gap(NOW, Last("y", NOW)), "k", 0)}, BadName, {"value": "y"})])
        for thing in not_made_of(Book):
            fails(self, BadBook, {"value": thing}, Server, thing, None)
        ask_errors(self, lambda asks: Server(BOOK, asks))

    def test_entries(self):
        server = Server(BOOK, ASKS)
        for thing in [*odd_values(), row(0, "z", 1), row(0, "a", 2, 1), row(0, "b", 1, 2), ("fix", 0, 1, 1, 1), list(row(0, "a", 1))]:
            if thing != ("row", 0, "a", "k", 0, 0, 0):
                fails(self, BadEntry, {"at": 0}, server.feed, thing)
        server.feed(row(0, "a", 4))
        for thing in [row(0, "a", 5), row(1, "a", 3), ("gone", 1, 4), ("gone", 0, 8), ("fix", 0, 9, 1, 7), None]:
            fails(self, BadEntry, {"at": 1}, server.feed, thing)
        # An entry just at the last tick comes too late, one just above it does not.
        server.hear(6)
        fails(self, BadEntry, {"at": 1}, server.feed, row(1, "a", 6))
        fails(self, BadEntry, {"at": 1}, server.feed, row(1, "a", 5))
        server.feed(("fix", 0, 5, 1, 7))
        fails(self, BadEntry, {"at": 2}, server.feed, row(1, "a", 6))
        server.feed(row(1, "a", 7))
        self.assertEqual(len(server.journal), 3)

    def test_the_400th_and_the_401st_entry(self):
        server = Server(BOOK, {"x": (B, "k", 0)})
        for number in range(400):
            server.feed(row(number, "b", number))
        self.assertEqual(len(server.journal), 400)
        fails(self, BadEntry, {"at": 400}, server.feed, row(400, "b", 400))
        fails(self, BadEntry, {"at": 400}, server.feed, None)
        self.assertEqual(server.hear(399), [("told", 399, "x", 0, "final")])
        server.undo()
        server.undo()
        server.feed(row(400, "b", 400))
        self.assertEqual(len(server.journal), 400)

    def test_moments(self):
        server = Server(BOOK, ASKS)
        for thing in not_integers():
            fails(self, BadMoment, {"value": thing}, server.hear, thing)
        server.feed(row(0, "a", 4, 5))
        for h in (4, 0, -10 ** 30):
            fails(self, BadMoment, {"value": h}, server.hear, h)
        self.assertEqual(server.hear(5), [("told", 5, "b", 0, "open"), ("told", 5, "x", None, "open")])
        for h in (5, 4, -10 ** 30, True):
            fails(self, BadMoment, {"value": h}, server.hear, h)
        self.assertEqual(server.hear(6), [("closed", 6, "x", None, "final")])
        empty = Server(BOOK, ASKS)
        self.assertEqual(empty.hear(-10 ** 30), [])
        fails(self, BadMoment, {"value": -10 ** 30}, empty.hear, -10 ** 30)

    def test_names(self):
        server = Server(BOOK, ASKS)
        for thing in [*odd_values(), "y", "xx", ""]:
            fails(self, BadAsk, {"name": thing}, server.told, thing) if thing != "b" else None


if __name__ == "__main__":
    unittest.main()
