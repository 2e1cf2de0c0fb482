"""Halls [62]."""

import random
import unittest

from asofhall.amounts import Count, Number
from asofhall.books import Book
from asofhall.bulletins import bulletins
from asofhall.errors import (
    BadAsk, BadBook, BadEntry, BadForm, BadLine, BadMoment, BadName, BadText, HallError, NothingDone, TooMany)
from asofhall.forms import Form
from asofhall.halls import Hall
from asofhall.journals import Journal
from asofhall.lines import write_journal, write_line
from asofhall.moments import Last
from asofhall.plans import Plan
from asofhall.wordings import read_question, worded
from tests import models
from tests.ask_tests import LARGE, SMALL, deep, random_asks
from tests.helpers import errors_in_order, fails, not_integers, not_made_of, not_names, odd_values, picture, plain_form, shape
from tests.pair_tests import A, NOW

FORM = plain_form()
BOOK = Book({"a": 3, "b": 0})


def filled():
    """A hall in which each kind of deed was done."""
    hall = Hall(BOOK, FORM)
    hall.ask("x", "last a at now", "k", 3)
    hall.line("row 0 a k 1 5 1")
    hall.hear(3)
    hall.ask("n", "number a at now", "k", 2)
    hall.line("row 1 a k 2 6 4")
    hall.hear(4)
    return hall


class Working(unittest.TestCase):
    def test_an_empty_one(self):
        hall = Hall(BOOK, FORM)
        self.assertEqual((hall.journal, hall.asks(), hall.ticks(), hall.told(), hall.lines()), (Journal(BOOK), {}, [], [], ""))
        fails(self, BadAsk, {"name": ""}, hall.plan)
        fails(self, NothingDone, {}, hall.undo)
        self.assertEqual(hall.hear(7), [])
        self.assertEqual(hall.ticks(), [7])

    def test_at_work(self):
        hall = Hall(BOOK, FORM)
        self.assertEqual(hall.ask("x", "last a at now", "k", 3), A)
        self.assertEqual(hall.line("row 0 a k 1 5 1"), ("row", 0, "a", "k", 1, 5, 1))
        self.assertEqual(hall.journal, Journal(BOOK, [("row", 0, "a", "k", 1, 5, 1)]))
        self.assertEqual(hall.hear(2), [])
        self.assertEqual(hall.hear(3), [("told", 3, "x", 1, "open")])
        # An ask that is put behind ticks; nothing was told about it.
        self.assertEqual(hall.ask("n", "number a at now", "k", 2), Number("a", NOW))
        self.assertEqual(hall.line("row 1 a k 2 6 4"), ("row", 1, "a", "k", 2, 6, 4))
        self.assertEqual(hall.hear(4), [("told", 4, "n", 6, "open"), ("mended", 4, "x", 2, "open")])
        self.assertEqual(hall.hear(9), [("closed", 9, "n", 6, "final"), ("closed", 9, "x", 2, "final")])
        self.assertEqual(hall.told(), [
            ("told", 3, "x", 1, "open"), ("told", 4, "n", 6, "open"), ("mended", 4, "x", 2, "open"), ("closed", 9, "n", 6, "final"),
            ("closed", 9, "x", 2, "final")])
        self.assertEqual(hall.asks(), {"n": (Number("a", NOW), "k", 2), "x": (A, "k", 3)})
        self.assertEqual(list(hall.asks()), ["n", "x"])
        self.assertEqual((hall.ticks(), hall.lines()), ([2, 3, 4, 9], "row 0 a k 1 5 1\nrow 1 a k 2 6 4"))

    def test_as_bulletins_of_the_same_tell(self):
        rng = random.Random(171)
        for _ in range(60):
            lates = {"a": rng.randrange(4), "b": rng.randrange(3)}
            book, asks = Book(lates), random_asks(rng, 4)
            hall = Hall(book, FORM)
            for name, (question, key, now) in asks.items():
                self.assertEqual(hall.ask(name, worded(question), key, now), question)
            last = -1
            for entry in models.random_entries(rng, lates, rng.randrange(25)):
                low = max(last + 1, hall.journal.latest() or 0)
                if entry[-1] > low and rng.randrange(3) == 0:
                    last = rng.randrange(low, entry[-1])
                    hall.hear(last)
                self.assertEqual(hall.line(write_line(FORM, entry)), entry)
            hall.hear(30)
            self.assertEqual(hall.told(), bulletins(hall.journal, hall.asks(), hall.ticks()))
            self.assertEqual(hall.lines(), write_journal(FORM, hall.journal))
            self.assertEqual(hall.asks(), asks)

    def test_plans(self):
        hall = Hall(BOOK, FORM)
        for number, name in enumerate(["h", "c", "b", "a", "g", "d", "f", "e"]):
            hall.ask(name, f"(last a at now + {number + 1})", "k", number)
            plan = hall.plan()
            self.assertIs(type(plan), Plan)
            questions = [hall.asks()[one][0] for one in sorted(hall.asks())]
            self.assertEqual((plan.kept, plan.merges), (Plan(questions).kept, Plan(questions).merges))
        self.assertEqual(plan.kept, [NOW, A, *[A + many for many in (4, 3, 2, 6, 8, 7, 5, 1)]])
        hall.ask("i", "now", "k", 0)
        before = picture(hall)
        fails(self, BadAsk, {"name": ""}, hall.plan)
        self.assertEqual(picture(hall), before)
        hall.undo()
        self.assertEqual(len(hall.plan().kept), 10)

    def test_the_12th_ask_and_the_13th(self):
        hall = Hall(BOOK, FORM)
        for at, question in enumerate(SMALL[:12]):
            self.assertEqual(hall.ask(chr(97 + at), worded(question), "k", 0), question)
        fails(self, BadAsk, {"name": "zz"}, hall.ask, "zz", None, None, None)
        self.assertEqual(len(hall.asks()), 12)
        self.assertEqual([one[2] for one in hall.hear(0)], [chr(97 + at) for at in range(12)])
        hall.undo()
        hall.undo()
        self.assertEqual(hall.ask("zz", "now", "k", 0), NOW)

    def test_what_is_returned_is_new(self):
        hall = filled()
        before = picture(hall)
        hall.asks().clear()
        hall.ticks().clear()
        hall.told().clear()
        hall.plan().kept.clear()
        self.assertEqual(picture(hall), before)
        hall.hear(5).clear()
        self.assertEqual(len(hall.told()), 4)


class Undoing(unittest.TestCase):
    def test_down_to_nothing_and_once_more(self):
        hall = Hall(BOOK, FORM)
        deeds = [
            lambda: hall.ask("x", "last a at now", "k", 3), lambda: hall.line("row 0 a k 1 5 1"), lambda: hall.hear(3),
            lambda: hall.ask("a", "now", "k", 3), lambda: hall.hear(4), lambda: hall.line("row 1 b k 5 5 5"), lambda: hall.line("gone 1 5")]
        for _ in range(2):
            pictures = []
            for deed in deeds:
                pictures.append(picture(hall))
                deed()
            for before in reversed(pictures):
                self.assertIsNone(hall.undo())
                self.assertEqual(picture(hall), before)
            fails(self, NothingDone, {}, hall.undo)

    def test_what_was_undone_may_be_done_otherwise(self):
        hall = filled()
        hall.undo()
        self.assertEqual(hall.ticks(), [3])
        fails(self, BadLine, {"number": 0}, hall.line, "gone")
        hall.undo()
        self.assertEqual(hall.journal, Journal(BOOK, [("row", 0, "a", "k", 1, 5, 1)]))
        hall.undo()
        self.assertEqual(list(hall.asks()), ["x"])
        hall.ask("n", "now", "l", 4)
        self.assertEqual(hall.hear(4), [("told", 4, "n", 4, "final")])


class Trials(unittest.TestCase):
    def test_the_hall_is_as_it_was(self):
        hall = filled()
        before = picture(hall)

        def deed(inner):
            self.assertIs(inner, hall)
            inner.line("row 7 b k 9 1 9")
            inner.ask("new", "now", "k", 0)
            inner.hear(9)
            for _ in range(5):
                inner.undo()
            inner.ask("other", "now", "k", 0)
            return inner.ticks(), inner.hear(50)

        ticks, told = hall.trial(deed)
        self.assertEqual(ticks, [3])
        self.assertEqual([one[2] for one in told], ["n", "other", "x"])
        self.assertEqual(picture(hall), before)
        # Its undos are as they were, too.
        for many in range(6):
            hall.undo()
        fails(self, NothingDone, {}, hall.undo)

    def test_errors_are_passed_on(self):
        hall = filled()
        before = picture(hall)

        def wrong(inner):
            inner.undo()
            inner.line("row 7 b k 9 1 9")
            inner.hear(True)

        fails(self, BadMoment, {"value": True}, hall.trial, wrong)
        self.assertEqual(picture(hall), before)
        for error in (KeyError, RecursionError, KeyboardInterrupt, StopIteration):
            def other(inner):
                inner.hear(100)
                raise error()

            with self.assertRaises(error):
                hall.trial(other)
            self.assertEqual(picture(hall), before)

    def test_trials_in_trials(self):
        hall = filled()
        before = picture(hall)

        def outer(one):
            one.undo()
            there = picture(one)
            told = one.trial(lambda two: (two.undo(), two.undo(), two.hear(70)))
            self.assertEqual(picture(one), there)
            one.hear(60)
            return told[2]

        self.assertEqual(hall.trial(outer), [("closed", 70, "x", 1, "final")])
        self.assertEqual(picture(hall), before)

    def test_what_the_deed_returns(self):
        hall = filled()
        for thing in odd_values():
            self.assertIs(hall.trial(lambda inner: thing), thing)
        self.assertEqual(hall.trial(Hall.ticks), [3, 4])
        self.assertIsNone(hall.trial(Hall.undo))
        self.assertEqual(hall.ticks(), [3, 4])


class Same(unittest.TestCase):
    def test_whatever_was_undone(self):
        hall, other = filled(), filled()
        self.assertIs(hall.same(hall), True)
        self.assertIs(hall.same(other), True)
        other.line("row 9 b k 8 0 8")
        self.assertIs(hall.same(other), False)
        other.undo()
        self.assertIs(hall.same(other), True)
        twin = Hall(Book({"b": 0, "a": 3}), plain_form())
        for deed in (lambda: twin.line("row 0 a k 1 5 1"), lambda: twin.ask("x", "last a at now", "k", 3), lambda: twin.hear(3),
                     lambda: twin.line("row 1 a k 2 6 4"), lambda: twin.ask("n", "number a at now", "k", 2), lambda: twin.hear(4)):
            self.assertIs(twin.same(hall), False)
            deed()
        self.assertIs(twin.same(hall), True)
        self.assertIs(hall.same(twin), True)

    def test_what_is_not_the_same(self):
        hall = filled()
        form = Form(FORM.shape("row"), FORM.shape("fix"), shape("$id", " ", "$arrival"))
        for other in (Hall(Book({"a": 3, "b": 1}), FORM), Hall(BOOK, form), Hall(BOOK, FORM)):
            self.assertIs(Hall(BOOK, FORM).same(other), other.same(Hall(BOOK, FORM)))
            self.assertIs(hall.same(other), False)
        self.assertIs(Hall(BOOK, FORM).same(Hall(Book({"a": 3, "b": 1}), FORM)), False)
        self.assertIs(Hall(BOOK, FORM).same(Hall(BOOK, form)), False)
        for deed in (lambda one: one.ask("y", "now", "k", 3), lambda one: one.hear(5), lambda one: (one.undo(), one.hear(5)),
                     lambda one: one.line("row 2 b l 5 0 5")):
            other = filled()
            deed(other)
            self.assertIs(hall.same(other), False)
        # No bulletin tells of the tick.
        silent = Hall(BOOK, FORM)
        silent.hear(5)
        self.assertIs(silent.same(Hall(BOOK, FORM)), False)
        self.assertIs(Hall(BOOK, FORM).same(silent), False)
        # Asks that are put at another place between the ticks have other bulletins.
        one, other = Hall(BOOK, FORM), Hall(BOOK, FORM)
        one.ask("x", "last a at now", "k", 1)
        one.hear(1)
        one.hear(2)
        other.hear(1)
        other.ask("x", "last a at now", "k", 1)
        other.hear(2)
        self.assertEqual((one.asks(), one.ticks()), (other.asks(), other.ticks()))
        self.assertIs(one.same(other), False)
        for key, now in (("l", 1), ("k", 2)):
            other = Hall(BOOK, FORM)
            other.ask("x", "last a at now", key, now)
            third = Hall(BOOK, FORM)
            third.ask("x", "last a at now", "k", 1)
            self.assertIs(third.same(other), False)

    def test_other_things(self):
        hall = filled()
        for thing in odd_values():
            self.assertIs(hall.same(thing), False)
        deep_list = []
        for _ in range(100000):
            deep_list = [deep_list]
        self.assertIs(hall.same(deep_list), False)


class Wrong(unittest.TestCase):
    def test_making_one(self):
        errors_in_order(self, Hall, (BOOK, FORM), [
            (0, {"a": 3}, BadBook, {"value": {"a": 3}}), (1, FORM.shape("row"), BadForm, {"value": FORM.shape("row")})])
        for thing in not_made_of(Book):
            fails(self, BadBook, {"value": thing}, Hall, thing, None)
        for thing in not_made_of(Form):
            fails(self, BadForm, {"value": thing}, Hall, BOOK, thing)

    def test_lines(self):
        hall = filled()
        for thing in [*odd_values(), "row 0 a k 1 5", "row 7 a k 5 5 5 ", "gone 1 " + "5" * 54]:
            fails(self, BadLine, {"number": 0}, hall.line, thing)
        for text in ("row 7 z k 5 5 5", "row 0 a k 5 5 5", "row 7 a k 6 5 5", "row 7 b k 5 5 6", "gone 9 5", "gone 0 5", "fix 1 2 0 6",
                     # Just at the last tick, and ahead of it.
                     "row 7 a k 4 5 4", "gone 1 4", "row 7 a k 3 5 3"):
            fails(self, BadEntry, {"at": 2}, hall.line, text)
        doubt = Hall(BOOK, Form(FORM.shape("row"), FORM.shape("fix"), shape("$id", "$arrival")))
        doubt.line("row 12 a k 2 0 2")
        fails(self, BadLine, {"number": 2}, doubt.line, "123")
        fails(self, BadLine, {"number": 2}, doubt.line, "1" * 60)
        self.assertEqual(hall.line("gone 1 5"), ("gone", 1, 5))

    def test_the_400th_and_the_401st_entry(self):
        hall = Hall(BOOK, FORM)
        for number in range(400):
            hall.line(f"row {number} b k {number} 0 {number}")
        fails(self, BadEntry, {"at": 400}, hall.line, "row 400 b k 400 0 400")
        fails(self, BadLine, {"number": 0}, hall.line, "row 400")
        hall.undo()
        hall.line("row 400 b k 400 0 400")
        self.assertEqual(len(hall.journal), 400)
        self.assertEqual(len(hall.lines().split("\n")), 400)

    def test_asks(self):
        hall = filled()
        good = ("y", "last b at now", "k", 5)
        errors_in_order(self, hall.ask, good, [
            (0, "x", BadAsk, {"name": "x"}), (1, "last b at nox", BadText, {"place": 12}), (2, "K", BadName, {"value": "K"}),
            (3, True, BadMoment, {"value": True}), (1, "last z at last z at last y at now", BadAsk, {"name": "y"})])
        fails(self, BadName, {"value": "y"}, hall.ask, "v", "count z from last y at now to now", "k", 5)
        fails(self, BadName, {"value": "z"}, hall.ask, "v", "last z at now", "k", 5)
        for thing in [*not_names(), "x", "n"]:
            fails(self, BadAsk, {"name": thing}, hall.ask, thing, "now", "k", 0)
            fails(self, BadAsk, {"name": thing}, hall.ask, thing, None, None, None)
        for thing in not_made_of(str):
            fails(self, BadText, {"place": 0}, hall.ask, "y", thing, None, None)
        fails(self, TooMany, {}, hall.ask, "y", "last a at " * 12 + "now", None, None)
        for thing in not_names():
            fails(self, BadName, {"value": thing}, hall.ask, "y", "now", thing, None)
        for thing in not_integers():
            fails(self, BadMoment, {"value": thing}, hall.ask, "y", worded(LARGE[0]), "k", thing)
        for question in LARGE:
            self.assertEqual(read_question(worded(question)), question)
            fails(self, BadAsk, {"name": "y"}, hall.ask, "y", worded(question), "k", 5)
        fails(self, BadAsk, {"name": "y"}, hall.ask, "y", worded(Number("z", deep(12))), "k", 5)
        for question in SMALL:
            self.assertEqual(hall.ask("y", worded(question), "k", 5), question)
            hall.undo()
        self.assertTrue(hall.same(filled()))

    def test_ticks(self):
        hall = filled()
        for thing in [*not_integers(), 4, 3, 0, -10 ** 30]:
            fails(self, BadMoment, {"value": thing}, hall.hear, thing)
        hall.line("row 7 b k 9 0 9")
        for h in (8, 5, 4):
            fails(self, BadMoment, {"value": h}, hall.hear, h)
        self.assertEqual(hall.hear(9), [("closed", 9, "n", 6, "final"), ("closed", 9, "x", 2, "final")])

    def test_more_ticks_than_sixty(self):
        hall = Hall(BOOK, FORM)
        hall.ask("x", "count a from (now - 9) to now", "k", 80)
        for h in range(100):
            told = hall.hear(h)
            self.assertEqual([one[0] for one in told], ["told"] if h == 80 else ["closed"] if h == 83 else [])
        self.assertEqual(hall.ticks(), list(range(100)))
        self.assertEqual(hall.asks(), {"x": (Count("a", NOW - 9, NOW), "k", 80)})


class Deeds(unittest.TestCase):
    def test_random_deeds(self):
        """A hall against lists of all that was done and not taken back."""
        rng = random.Random(172)
        errors = {}
        for _ in range(40):
            hall, past, state = Hall(BOOK, FORM), [], ([], {}, [], [])
            for _ in range(40):
                word = rng.choice(("line", "line", "ask", "hear", "hear", "undo", "trial"))
                try:
                    self.deed(rng, hall, word)
                except HallError as caught:
                    found = type(caught).__name__
                    errors[found] = errors.get(found, 0) + 1
                    self.assertTrue(word != "undo" or not past)
                else:
                    if word == "undo":
                        state = past.pop()
                    elif word != "trial":
                        past.append(state)
                        state = self.state(hall)
                self.assertEqual(self.state(hall), state)
        self.assertGreater(min(errors.get(word, 0) for word in ("BadEntry", "BadMoment", "BadAsk", "NothingDone")), 10)

    def state(self, hall):
        return list(hall.journal.entries), hall.asks(), hall.ticks(), hall.told()

    def deed(self, rng, hall, word):
        now = max([0, *hall.ticks(), *[entry[-1] for entry in hall.journal.entries]]) + rng.randrange(3)
        if word == "line":
            hall.line(write_line(FORM, models.random_entry(rng, {"a": 3, "b": 0}, hall.journal.entries, now)))
        elif word == "ask":
            hall.ask(rng.choice("wxyz"), rng.choice(("last a at now", "number b at now", "now")), "k", now)
        elif word == "hear":
            hall.hear(now - rng.randrange(2))
        elif word == "undo":
            hall.undo()
        else:
            hall.trial(lambda inner: [self.deed(rng, inner, rng.choice(("line", "ask", "hear", "undo"))) for _ in range(3)])


if __name__ == "__main__":
    unittest.main()
