"""Keepers [42]."""

import random
import unittest

from asofhall.amounts import Count, Number, Total
from asofhall.answers import value
from asofhall.books import Book
from asofhall.errors import BadBook, BadIndex, BadMoment, BadName, BadQuestion, NotHeard
from asofhall.journals import Journal
from asofhall.keepers import Keeper
from asofhall.moments import Last
from asofhall.needs import needed
from asofhall.worlds import world_of
from tests import models
from tests.helpers import errors_in_order, fails, not_integers, not_made_of, not_names, picture
from tests.pair_tests import A, AFTER, B, NOW
from tests.test_needs import NOT_KEEPABLE, row

BOOK = Book({"a": 3, "b": 0, "c": 5})


class Keeping(unittest.TestCase):
    def test_step_by_step(self):
        keeper = Keeper(BOOK, [Number("b", NOW), Count("b", NOW - 3, NOW), A])
        self.assertEqual(keeper.held(), [])
        for entry in (row(0, "b", 1, amount=10), row(1, "a", 1), row(2, "c", 1), row(3, "b", 2, amount=20)):
            self.assertIsNone(keeper.feed(entry))
        self.assertEqual(keeper.held(), [0, 1, 2, 3])
        self.assertEqual(keeper.hear(2), [2])
        self.assertEqual(keeper.held(), [0, 1, 3])
        self.assertEqual([keeper.answer(index, "k") for index in range(3)], [20, 2, 1])
        self.assertEqual([keeper.answer(index, "z") for index in range(3)], [None, 0, None])
        # The row of c was dropped, though it does not stand at a settled moment.
        keeper.feed(("fix", 2, 2, 9, 3))
        self.assertEqual(keeper.held(), [0, 1, 3])
        keeper.feed(("gone", 2, 3))
        keeper.feed(("fix", 1, 2, 5, 3))
        self.assertEqual(keeper.held(), [0, 1, 3])
        self.assertEqual(keeper.hear(4), [0])
        self.assertEqual([keeper.answer(index, "k") for index in range(3)], [20, 1, 2])
        keeper.feed(("gone", 1, 5))
        self.assertEqual(keeper.held(), [3])
        self.assertEqual(keeper.hear(9), [])
        self.assertEqual([keeper.answer(index, "k") for index in range(3)], [20, 0, None])

    def test_rows_that_are_taken_back_are_not_dropped(self):
        keeper = Keeper(BOOK, [A])
        keeper.feed(row(0, "a", 0))
        keeper.feed(("gone", 0, 1))
        keeper.feed(row(1, "b", 1))
        self.assertEqual(keeper.hear(1), [1])
        self.assertEqual(keeper.hear(50), [])

    def test_as_the_whole_journal_tells(self):
        rng = random.Random(81)
        dropped_in_all = 0
        for _ in range(300):
            lates = {"a": rng.randrange(4), "b": rng.randrange(4), "c": rng.randrange(3)}
            questions = [models.random_keepable(rng, ["a", "b", "c"]) for _ in range(rng.randrange(1, 4))]
            entries = models.random_entries(rng, lates, rng.randrange(60))
            dropped_in_all += self.followed(rng, Book(lates), questions, entries)
        self.assertGreater(dropped_in_all, 300)

    def followed(self, rng, book, questions, entries):
        """Feeds the entries, and holds all that is told against the whole journal."""
        keeper, dropped, last = Keeper(book, questions), [], -1
        for at, entry in enumerate(entries):
            keeper.feed(entry)
            stand = [one[3] for one in models.standing(entries[:at + 1])]
            self.assertEqual(keeper.held(), sorted(set(stand) - set(dropped)))
            behind = [one[-1] for one in entries[at + 1:at + 2]]
            h = max(entry[-1], last + 1) + rng.randrange(2)
            if rng.randrange(2) or (behind and h >= behind[0]):
                continue
            if rng.randrange(3) == 0:
                keeper = keeper.copy()
            last = h
            journal = Journal(book, entries[:at + 1])
            ids = needed(questions, journal, h)
            now_dropped = sorted(set(stand) - set(ids) - set(dropped))
            self.assertEqual(keeper.hear(h), now_dropped)
            dropped += now_dropped
            self.assertEqual(keeper.held(), ids)
            for key in ("k", "l", "z"):
                told = [keeper.answer(index, key) for index in range(len(questions))]
                self.assertEqual(told, [value(question, world_of(journal, key), h) for question in questions])
        return len(dropped)

    def test_a_copy_keeps_for_itself(self):
        keeper = Keeper(BOOK, [Number("b", NOW)])
        keeper.feed(row(0, "b", 1, amount=10))
        keeper.hear(1)
        twin = keeper.copy()
        self.assertIs(type(twin), Keeper)
        self.assertEqual((twin.held(), twin.answer(0, "k")), ([0], 10))
        twin.feed(row(1, "b", 2, amount=20))
        self.assertEqual((keeper.held(), keeper.answer(0, "k")), ([0], 10))
        fails(self, NotHeard, {}, twin.answer, 0, "k")
        keeper.feed(row(2, "b", 2, amount=30))
        keeper.feed(("fix", 2, 2, 31, 2))
        self.assertEqual((twin.hear(2), keeper.hear(3)), ([0], [0]))
        self.assertEqual((twin.answer(0, "k"), keeper.answer(0, "k")), (20, 31))
        fails(self, BadMoment, {"value": 3}, keeper.hear, 3)
        self.assertEqual(twin.hear(3), [])
        # What was fed and not heard is copied, too.
        keeper.feed(row(5, "b", 9))
        twin = keeper.copy()
        fails(self, BadMoment, {"value": 8}, twin.hear, 8)
        fails(self, NotHeard, {}, twin.answer, 0, "k")
        self.assertEqual(twin.held(), [2, 5])

    def test_lists_are_new_ones(self):
        questions = [B]
        keeper = Keeper(BOOK, questions)
        questions[0] = A
        questions.append(AFTER)
        keeper.feed(row(0, "b", 1))
        keeper.held().append(9)
        keeper.hear(1).append(8)
        self.assertEqual((keeper.held(), keeper.answer(0, "k")), ([0], 1))
        fails(self, BadIndex, {"value": 1}, keeper.answer, 1, "k")


class Wrong(unittest.TestCase):
    def test_making_one(self):
        errors_in_order(self, Keeper, (BOOK, [A]), [
            (0, {"a": 1}, BadBook, {"value": {"a": 1}}), (1, (), BadQuestion, {"value": ()}), (1, [A, AFTER], BadQuestion, {"value": AFTER}),
            (1, (Last("z", NOW), Count("y", NOW, NOW)), BadName, {"value": "y"})])
        for thing in not_made_of(Book):
            fails(self, BadBook, {"value": thing}, Keeper, thing, [])
        for thing in [*not_made_of((list, tuple)), [], (), [NOW] * 7]:
            fails(self, BadQuestion, {"value": thing}, Keeper, BOOK, thing)
        for thing in NOT_KEEPABLE:
            fails(self, BadQuestion, {"value": thing}, Keeper, BOOK, [Last("z", NOW), thing])
        for question in (Last("z", NOW), Number("z", NOW), Total("z", NOW, NOW)):
            fails(self, BadName, {"value": "z"}, Keeper, BOOK, [B, question])

    def test_hearing(self):
        keeper = Keeper(BOOK, [A])
        for thing in not_integers():
            fails(self, BadMoment, {"value": thing}, keeper.hear, thing)
        keeper.feed(row(0, "a", 4, 5))
        for thing in (4, 0, -10 ** 30):
            fails(self, BadMoment, {"value": thing}, keeper.hear, thing)
        before = picture(keeper)
        self.assertEqual(keeper.hear(5), [])
        self.assertNotEqual(picture(keeper), before)
        for thing in (5, 4, -1, *not_integers()):
            fails(self, BadMoment, {"value": thing}, keeper.hear, thing)
        self.assertEqual(keeper.hear(6), [])
        other = Keeper(BOOK, [A])
        self.assertEqual(other.hear(-10 ** 30), [])
        fails(self, BadMoment, {"value": -10 ** 30}, other.hear, -10 ** 30)

    def test_answers(self):
        keeper = Keeper(BOOK, [A, B])
        for thing in [*not_integers(), 2, -1, 10 ** 30]:
            fails(self, BadIndex, {"value": thing}, keeper.answer, thing, None)
        for thing in not_names():
            fails(self, BadName, {"value": thing}, keeper.answer, 1, thing)
        fails(self, NotHeard, {}, keeper.answer, 1, "k")
        keeper.hear(0)
        self.assertIsNone(keeper.answer(1, "k"))
        keeper.feed(row(0, "a", 1))
        fails(self, BadIndex, {"value": 2}, keeper.answer, 2, "k")
        fails(self, BadName, {"value": "K"}, keeper.answer, 0, "K")
        fails(self, NotHeard, {}, keeper.answer, 0, "k")
        keeper.hear(1)
        self.assertEqual(keeper.answer(0, "k"), 1)
        # Also an entry of a row that was dropped is fed behind it.
        keeper.feed(("gone", 77, 2))
        fails(self, NotHeard, {}, keeper.answer, 0, "k")


if __name__ == "__main__":
    unittest.main()
