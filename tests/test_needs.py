"""Keepable questions and needed rows [38] to [41]."""

import random
import unittest

from asofhall.amounts import Count, Gap, Number, Total
from asofhall.answers import support, value
from asofhall.books import Book
from asofhall.errors import BadId, BadJournal, BadMoment, BadName, BadQuestion
from asofhall.journals import Journal
from asofhall.moments import Last, Next
from asofhall.needs import is_keepable, is_why, needed, why_needed
from asofhall.worlds import world_of
from tests import models
from tests.helpers import errors_in_order, fails, nested, not_integers, not_made_of, odd_values, picture
from tests.pair_tests import A, AFTER, B, NOW

LATES = {"a": 3, "b": 0, "c": 5}
BOOK = Book(LATES)


def row(number, stream, moment, arrival=None, key="k", amount=1):
    return ("row", number, stream, key, moment, amount, moment if arrival is None else arrival)


KEEPABLE = [
    NOW, NOW + 3, A, A - 2, Last("b", A), Last("b", Last("a", NOW + 1) - 5) + 2, Last("c", Last("b", A)), Number("a", NOW),
    Number("b", A), Number("b", A + 7), Number("a", NOW - 4), Count("a", NOW, NOW), Count("a", NOW - 5, NOW), Total("b", NOW + 3, NOW - 3),
]
NOT_KEEPABLE = [
    AFTER, Last("a", A), Last("a", Last("b", A)), Last("b", AFTER), A | B, A | A, A.later(NOW), A.earlier(B), NOW | NOW,
    NOW.later(NOW), Last("b", A | NOW), Number("a", A), Number("b", Last("a", B)), Number("b", AFTER), Number("a", NOW | NOW),
    Number("a", A + 1), Count("a", A, NOW), Count("a", NOW, A), Count("a", NOW, B), Total("a", NOW | NOW, NOW),
    Total("a", NOW, NOW.later(NOW)), Count("a", NOW, A + 1), Gap(NOW, NOW), Gap(NOW - 1, NOW), Last("a", (A - 1) | NOW),
]


class Keepable(unittest.TestCase):
    def test_by_hand(self):
        for question in KEEPABLE:
            self.assertIs(is_keepable(question), True, question.spelling)
        for question in NOT_KEEPABLE:
            self.assertIs(is_keepable(question), False, question.spelling)

    def test_things_of_any_kind_and_size(self):
        kept = [NOW, NOW + 1, A, Number("a", NOW), Count("a", NOW, NOW), Total("a", NOW, NOW)]
        for thing in [*odd_values(), nested((), 100000), [NOW], (NOW,)]:
            self.assertIs(is_keepable(thing), any(type(one) is type(thing) and one == thing for one in kept))

    def test_random_chains(self):
        rng = random.Random(71)
        for _ in range(200):
            self.assertIs(is_keepable(models.random_keepable(rng, ["a", "b", "c"])), True)


class Needed(unittest.TestCase):
    def decided(self, questions, journal, h):
        """Asserts that why_needed shows each needed row, and no other one; returns the needed ones."""
        before = picture([questions, journal])
        ids = needed(questions, journal, h)
        stand = {one[3]: one[1] for one in models.standing(journal.entries)}
        self.assertIs(type(ids), list)
        self.assertEqual(ids, sorted(set(ids)))
        self.assertLessEqual(set(ids), set(stand))
        for number in [*stand, max([-1, *stand]) + 1]:
            why = why_needed(questions, journal, h, number)
            self.assertEqual(why is not None, number in ids)
            if why is None:
                continue
            self.assertIs(type(why), tuple)
            entries, index, now = why
            self.assertEqual([type(entries), type(index), type(now)], [list, int, int])
            self.assertLessEqual(len(entries), 16)
            lates = {stream: journal.book.late(stream) for stream in journal.book.streams()}
            self.assertTrue(models.is_going_on(lates, journal.entries, h, entries))
            self.assertTrue(now >= h and all(now >= entry[-1] for entry in entries))
            behind = Journal(journal.book, [*journal.entries, *entries])
            self.assertIn(number, support(questions[index], world_of(behind, stand[number]), now))
            self.assertIs(is_why(questions, journal, h, number, why), True)
        self.assertEqual(picture([questions, journal]), before)
        return ids

    def test_a_row_that_is_needed_at_one_moment_and_not_later(self):
        journal = Journal(BOOK, [row(0, "b", 1), row(1, "b", 5)])
        for h, ids in [(5, [1]), (6, [1]), (100, [1])]:
            self.assertEqual(self.decided([B], journal, h), ids)
        # The row at 1 is found from 1 to 4: at now - 3 till the moment 7.
        for h, ids in [(5, [0, 1]), (6, [0, 1]), (7, [0, 1]), (8, [1]), (100, [1])]:
            self.assertEqual(self.decided([Last("b", NOW - 3)], journal, h), ids, h)
            self.assertEqual(self.decided((Number("b", NOW - 3),), journal, h), ids, h)
        for h, ids in [(5, [1]), (6, [1])]:
            self.assertEqual(self.decided([Last("b", NOW + 3)], journal, h), ids, h)

    def test_rows_that_may_still_go(self):
        journal = Journal(BOOK, [row(0, "a", 1), row(1, "a", 5)])
        # Till 8 the row at 5 may go; and the one at 1 is found then.
        for h, ids in [(5, [0, 1]), (7, [0, 1]), (8, [1]), (9, [1])]:
            self.assertEqual(self.decided([A], journal, h), ids, h)
        self.assertEqual(self.decided([NOW, NOW + 4], journal, 5), [])
        self.assertEqual(self.decided([B], journal, 5), [])
        self.assertEqual(self.decided([B, A], journal, 8), [1])

    def test_rows_at_one_moment(self):
        settled = Journal(BOOK, [row(4, "b", 5), row(2, "b", 5), row(3, "b", 5)])
        self.assertEqual(self.decided([B], settled, 5), [4])
        self.assertEqual(self.decided([Last("b", NOW - 10)], settled, 5), [4])
        self.assertEqual(self.decided([Count("b", NOW - 3, NOW)], settled, 5), [2, 3, 4])
        unsettled = Journal(BOOK, [row(4, "a", 5), row(2, "a", 5), row(3, "a", 5)])
        self.assertEqual(self.decided([A], unsettled, 7), [2, 3, 4])
        self.assertEqual(self.decided([A], unsettled, 8), [4])

    def test_looks_inside_looks(self):
        rows = [row(0, "b", 1), row(1, "a", 2), row(2, "b", 3), row(3, "a", 4), row(4, "b", 5)]
        journal = Journal(BOOK, rows)
        question = Last("b", A)
        self.assertEqual(self.decided([question], journal, 5), [0, 1, 2, 3, 4])
        # At 6 the row of a at 2 may be found still, since that at 4 may go till 7.
        self.assertEqual(self.decided([question], journal, 6), [0, 1, 2, 3, 4])
        self.assertEqual(self.decided([question], journal, 7), [2, 3, 4])
        self.assertEqual(self.decided([question], journal, 8), [2, 3, 4])
        self.assertEqual(self.decided([Number("b", A)], journal, 8), [2, 3, 4])
        self.assertEqual(self.decided([Last("b", A - 2)], journal, 8), [0, 2, 3, 4])
        # From a row of a that may come there may be looked at the row at 5 alone.
        later = Journal(BOOK, [*rows, row(5, "a", 5)])
        self.assertEqual(self.decided([question], later, 9), [4, 5])

    def test_a_row_that_is_found_at_one_moment_alone(self):
        journal = Journal(BOOK, [row(at, "b", at) for at in range(6)])
        for h, ids in [(5, [2, 3, 4, 5]), (6, [3, 4, 5]), (7, [4, 5]), (8, [5])]:
            self.assertEqual(self.decided([Last("b", NOW - 3)], journal, h), ids)

    def test_looks_from_settled_rows_alone(self):
        rows = [row(0, "b", 1), row(1, "a", 2), row(2, "b", 3), row(3, "a", 4), row(4, "b", 5)]
        for more in (0, 1, 2, 3):
            # At 8 the row of a at 2 is found, and later on the one at 4 alone.
            question = Last("b", Last("a", NOW - 5) - more)
            self.assertEqual(self.decided([question], Journal(BOOK, rows), 8), [0, 1, 2, 3, 4])
            ids = [[2, 3, 4], [2, 3, 4], [0, 3, 4], [0, 2, 3, 4]][more]
            self.assertEqual(self.decided([question], Journal(BOOK, rows), 9), ids)
        rows = [row(0, "a", 1), row(1, "a", 3), row(2, "b", 4), row(3, "a", 5), row(4, "b", 6)]
        self.assertEqual(self.decided([Last("a", Last("b", NOW - 5) - 3)], Journal(BOOK, rows), 9), [0, 1, 2, 3, 4])
        self.assertEqual(self.decided([Last("a", Last("b", NOW - 5) - 3)], Journal(BOOK, rows), 11), [1, 3, 4])

    def test_rows_to_look_from_that_cannot_be_found(self):
        # The rows of b at 3 and at 7 are never found, so a row of c must be shown from the one behind them.
        book = Book({"a": 0, "b": 0, "c": 0})
        for moments, more in [((2, 10, 3, 9, 15), 0), ((6, 14, 7, 13, 20), -4)]:
            rows = [row(at, "aabbb"[at], moment, 30) for at, moment in enumerate(moments)]
            rows += [row(5, "c", 2, 30), row(6, "c", 20, 30)]
            question = Last("c", Last("b", Last("a", NOW - 25)) + more)
            rows = sorted([(*one[:6], one[4]) for one in rows], key=lambda one: one[6])
            journal = Journal(book, rows)
            for h in (30, 31, 32):
                ids = self.decided([question], journal, h)
                self.assertIn(5, ids)
                self.assertNotIn(2, ids)
                self.assertIn(3, ids)

    def test_counts(self):
        rows = [row(at, "b", at) for at in range(6)]
        journal = Journal(BOOK, rows)
        for question, h, ids in [
                (Count("b", NOW - 3, NOW), 5, [3, 4, 5]), (Total("b", NOW - 3, NOW), 5, [3, 4, 5]), (Count("b", NOW - 3, NOW), 6, [4, 5]),
                (Count("b", NOW - 3, NOW), 8, []), (Count("b", NOW - 5, NOW - 3), 5, [1, 2, 3, 4, 5]), (Count("b", NOW, NOW - 3), 5, []),
                (Count("b", NOW, NOW + 9), 5, []), (Count("b", NOW - 2, NOW - 2), 5, []), (Count("b", NOW - 1, NOW + 4), 5, [5]),
                (Count("a", NOW - 3, NOW), 5, []), (Count("b", NOW - 10 ** 30, NOW), 5, [0, 1, 2, 3, 4, 5])]:
            self.assertEqual(self.decided([question], journal, h), ids, (question.spelling, h))
        moving = Journal(BOOK, [row(0, "a", 1, 4), row(1, "c", 0, 4)])
        for question, h, ids in [
                (Count("a", NOW - 1, NOW), 4, []), (Count("a", NOW - 4, NOW), 4, [0]), (Count("a", NOW - 3, NOW), 4, []),
                (Count("c", NOW - 1, NOW), 4, [1]), (Count("c", NOW - 1, NOW), 5, []), (Count("c", NOW, NOW + 9), 4, []),
                (Count("c", NOW - 9, NOW - 8), 4, [1]), (Count("c", NOW - 1, NOW - 1), 4, []), (Count("c", NOW - 1, NOW - 2), 4, []),
                (Count("c", NOW - 1, NOW + 4), 4, [1]), (Count("c", NOW - 9, NOW - 8), 8, [1]), (Count("c", NOW - 9, NOW - 8), 9, [])]:
            self.assertEqual(self.decided([question], moving, h), ids, (question.spelling, h))

    def test_all_keys_and_rows_taken_back(self):
        entries = [row(0, "b", 1), row(1, "b", 1, key="l"), row(2, "a", 2), ("gone", 2, 2), row(3, "b", 3, key="l")]
        journal = Journal(BOOK, entries)
        self.assertEqual(self.decided([B, A], journal, 3), [0, 3])
        self.assertIsNone(why_needed([B, A], journal, 3, 2))
        self.assertEqual(self.decided([B], Journal(BOOK), -5), [])

    def test_random_journals(self):
        rng = random.Random(72)
        told = [0, 0]
        for _ in range(400):
            lates = {"a": rng.randrange(4), "b": rng.randrange(4), "c": rng.randrange(3)}
            entries = models.random_entries(rng, lates, rng.randrange(22))
            journal = Journal(Book(lates), entries)
            h = (journal.latest() or 0) + rng.randrange(3)
            questions = [models.random_keepable(rng, ["a", "b", "c"]) for _ in range(rng.randrange(1, 4))]
            ids = self.decided(questions, journal, h)
            out = [one[3] for one in models.standing(entries) if one[3] not in ids]
            told = [told[0] + len(ids), told[1] + len(out)]
            for _ in range(6):
                more = models.random_going_on(rng, lates, entries, h, rng.randrange(12))
                behind = Journal(journal.book, [*entries, *more])
                now = max(h, behind.latest() or h) + rng.randrange(6)
                self.left_out(questions, behind, now, out)
                self.assertFalse(set(needed(questions, behind, now)) & set(out))
        self.assertGreater(min(told), 200)

    def left_out(self, questions, journal, now, out):
        """Asserts that leaving rows out changes no answer and no support, and that none is looked at."""
        short = journal.without(out)
        for key in ("k", "l"):
            world, rest = world_of(journal, key), world_of(short, key)
            for question in questions:
                self.assertFalse(set(support(question, world, now)) & set(out))
                self.assertEqual(value(question, world, now), value(question, rest, now))
                self.assertEqual(support(question, world, now), support(question, rest, now))

    def test_as_many_entries_as_there_may_be(self):
        book = Book({stream: 5 for stream in "abcdefgh"})
        question = NOW - 1
        for stream in "bcdefgh":
            question = Last(stream, question)
        entries = [row(0, "a", 0, 0)] + [row(at, "abcdef"[at - 1], 7, 7) for at in range(1, 7)]
        journal = Journal(book, entries)
        self.assertEqual(self.decided([Last("a", question)], journal, 8), list(range(7)))
        self.assertEqual(self.decided([Number("a", question)], journal, 8), list(range(7)))


class Judged(unittest.TestCase):
    def test_by_hand(self):
        journal = Journal(BOOK, [row(0, "b", 1), row(1, "b", 5), row(2, "a", 5), row(3, "b", 5, key="l")])
        questions = [Last("b", NOW - 3), Last("a", NOW)]
        other = [row(9, "b", 6, key="l")]
        for number, thing, flag in [
                (0, ([], 0, 7), True), (0, ([], 0, 8), False), (0, ([], 0, 4), False), (0, ([], 0, 5), True), (0, ([], 1, 5), False),
                (0, ([], 2, 5), False), (0, ([], -2, 5), False), (2, ([], -1, 5), False), (0, ([], False, 5), False), (0, ([], 0, True), False),
                (0, ((), 0, 5), False), (0, [[], 0, 5], False), (0, ([], 0), False), (0, ([], 0, 5, 5), False), (1, ([], 0, 8), True),
                (1, ([], 0, 7), False), (1, (other, 0, 8), True), (3, (other, 0, 8), True), (3, (other, 0, 9), False),
                (1, ([row(9, "b", 6)], 0, 8), True), (1, ([row(9, "b", 6)], 0, 9), False), (1, ([row(9, "b", 6)], 0, 5), False),
                (1, ([row(9, "b", 9)], 0, 8), False), (1, ([row(9, "b", 5)], 0, 8), False), (1, ([row(1, "b", 6)], 0, 8), False),
                (2, ([], 1, 5), True), (2, ([("fix", 2, 6, 1, 6)], 1, 6), True), (2, ([("gone", 2, 6)], 1, 6), False),
                (2, ([("fix", 2, 6, 1, 6), row(7, "a", 6, 6)], 1, 6), False), (2, ([row(1000, "a", 7, 9)], 1, 9), False),
                (2, ([("fix", 2, 6, 1, 7)], 1, 6), False), (4, ([], 0, 7), False), (9, ([row(9, "b", 6)], 0, 9), False)]:
            self.assertIs(is_why(questions, journal, 5, number, thing), flag, (number, thing))
        many = [row(at, "a", 8, 8, "l") for at in range(100, 1100)]
        self.assertIs(is_why(questions, journal, 5, 2, (many, 1, 8)), True)
        self.assertIs(is_why(questions, journal, 5, 2, ([*many, ("gone", 2, 8)], 1, 8)), False)
        same = [row(at, "a", 5, 8) for at in range(100, 1100)]
        self.assertIs(is_why(questions, journal, 5, 2, (same, 1, 8)), False)

    def test_things_of_any_kind_and_size(self):
        journal = Journal(BOOK, [row(0, "b", 5)])
        deep = nested((), 100000)
        for thing in [*odd_values(), deep, (deep, 0, 5), ([deep], 0, 5), ([], deep, 5), ([], 0, deep)]:
            self.assertIs(is_why([B], journal, 5, 0, thing), False)
            self.assertIs(is_why([B], journal, 5, 0, ([thing], 0, 10 ** 6)), False)
            self.assertIs(is_why([B], journal, 5, 1, thing), False)
        for thing in not_integers():
            self.assertIs(is_why([B], journal, 5, 0, ([], thing, 5)), False)
            self.assertIs(is_why([B], journal, 5, 0, ([], 0, thing)), False)


class Wrong(unittest.TestCase):
    def test_errors(self):
        journal = Journal(BOOK, [row(0, "b", 5)])
        six = [NOW] * 6
        for call, more in [(needed, ()), (why_needed, (0,)), (is_why, (0, None))]:
            call(six, journal, 5, *more)
            call(tuple(six), journal, 10 ** 30, *more)
            errors_in_order(self, call, ([B], journal, 5, *more), [
                (0, [], BadQuestion, {"value": []}), (0, [NOW, AFTER, A | B], BadQuestion, {"value": AFTER}),
                (1, BOOK, BadJournal, {"value": BOOK}), (2, 4, BadMoment, {"value": 4}),
                (0, [Last("z", NOW), Last("y", B)], BadName, {"value": "y"})])
            for thing in [*not_made_of(list), [], (), [NOW] * 7, tuple([NOW] * 7)]:
                if not isinstance(thing, tuple) or not 1 <= len(thing) <= 6:
                    fails(self, BadQuestion, {"value": thing}, call, thing, journal, 5, *more)
            for thing in [*NOT_KEEPABLE, *[one for one in odd_values() if not is_keepable(one)]]:
                fails(self, BadQuestion, {"value": thing}, call, [thing], None, None, *more)
                fails(self, BadQuestion, {"value": thing}, call, (NOW, thing, AFTER), None, None, *more)
            for thing in not_made_of(Journal):
                fails(self, BadJournal, {"value": thing}, call, [Last("z", NOW)], thing, None, *more)
            for thing in [*not_integers(), 4, -10 ** 30]:
                fails(self, BadMoment, {"value": thing}, call, [Last("z", NOW)], journal, thing, *more)
            for question in (Last("z", NOW), Number("z", A), Count("z", NOW, NOW), Number("a", Last("z", NOW))):
                fails(self, BadName, {"value": "z"}, call, [NOW, question], journal, 5, *more)
        for thing in [*not_integers(), -1, -10 ** 30]:
            fails(self, BadId, {"value": thing}, why_needed, [B], journal, 5, thing)
            fails(self, BadId, {"value": thing}, is_why, [B], journal, 5, thing, None)
            fails(self, BadName, {"value": "z"}, why_needed, [Last("z", NOW)], journal, 5, thing)
        self.assertIsNone(why_needed([B], journal, 5, 10 ** 30))


if __name__ == "__main__":
    unittest.main()
