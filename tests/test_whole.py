"""The whole program: its parts agree with each other on the same journals."""

import random
import unittest

from asofhall import errors
from asofhall.amounts import Amount, Number
from asofhall.answers import value
from asofhall.books import Book
from asofhall.bulletins import bulletins
from asofhall.finals import final
from asofhall.halls import Hall
from asofhall.journals import Journal
from asofhall.keepers import Keeper
from asofhall.lines import read_journal, write_journal, write_line
from asofhall.needs import needed
from asofhall.offices import Office
from asofhall.plans import Plan
from asofhall.replays import by_keys, cut, joined, replay
from asofhall.servers import Server
from asofhall.waits import enough_wait, least_wait
from asofhall.wordings import worded
from asofhall.worlds import world_of
from tests import models
from tests.ask_tests import random_asks, random_ticks
from tests.helpers import plain_form

FORM = plain_form()


class Together(unittest.TestCase):
    def journals(self, seed, many):
        rng = random.Random(seed)
        for _ in range(many):
            lates = {"a": rng.randrange(5), "b": rng.randrange(3)}
            yield rng, Book(lates), Journal(Book(lates), models.random_entries(rng, lates, rng.randrange(30)))

    def test_a_plan_a_keeper_and_value_tell_the_same(self):
        for rng, book, journal in self.journals(181, 60):
            questions = [models.random_keepable(rng, ["a", "b"]) for _ in range(rng.randrange(1, 7))]
            keeper, plan = Keeper(book, questions), Plan(questions)
            for entry in journal.entries:
                keeper.feed(entry)
            h = (journal.latest() or 0) + rng.randrange(3)
            keeper.hear(h)
            self.assertEqual(keeper.held(), needed(questions, journal, h))
            short = journal.without(set(row[0] for row in self.ids(journal)) - set(keeper.held()))
            for key in ("k", "l", "m"):
                told = [keeper.answer(index, key) for index in range(len(questions))]
                self.assertEqual(told, plan.run(world_of(journal, key), h))
                self.assertEqual(told, plan.run(world_of(short, key), h))
                self.assertEqual(told, [value(question, world_of(journal, key), h) for question in questions])

    def ids(self, journal):
        return [entry[1:2] for entry in journal.entries if entry[0] == "row"]

    def test_a_server_a_hall_a_replay_and_lines_tell_the_same(self):
        for rng, book, journal in self.journals(182, 60):
            asks, ticks = random_asks(rng, 4), random_ticks(rng, 8, 20)
            told = bulletins(journal, asks, ticks)
            server, hall = Server(book, asks), Hall(book, FORM)
            for name, (question, key, now) in asks.items():
                hall.ask(name, worded(question), key, now)
            served, last = [], None
            for h in ticks:
                _, behind = cut(journal, h)
                for entry in journal.heard(h).entries[len(server.journal):]:
                    server.feed(entry)
                    hall.line(write_line(FORM, entry))
                self.assertEqual(journal.entries[len(server.journal):], tuple(behind))
                served += server.hear(h)
                self.assertEqual(hall.told() + hall.trial(lambda inner: inner.hear(h)), served)
                hall.hear(h)
                last = h
            self.assertEqual(served, told)
            self.assertEqual(hall.told(), told)
            self.assertEqual(replay(read_journal(FORM, book, write_journal(FORM, journal)), asks, ticks, -1), told)
            parts = list(by_keys(journal).values())
            self.assertEqual(bulletins(joined(parts) if parts else journal, asks, ticks), told)
            for name in asks:
                self.assertEqual(server.told(name), ([None] + [one for one in told if one[2] == name])[-1])
            if last is not None and 1 <= len(asks) <= 8:
                names = sorted(asks)
                answers = hall.plan().run(world_of(hall.journal, "k"), last)
                self.assertEqual(answers, [value(asks[name][0], world_of(hall.journal, "k"), last) for name in names])

    def test_final_at_now_plus_the_wait(self):
        for rng, book, journal in self.journals(183, 60):
            for question, key, now in random_asks(rng, 6).values():
                wait = enough_wait(question, book)
                if wait is None or isinstance(question, Amount) and not isinstance(question, Number):
                    continue
                self.assertEqual(wait, least_wait(question, book))
                h = max(now + wait, journal.latest() or now)
                self.assertIs(final(question, journal, key, now, h), True)

    def test_what_an_office_puts_together_is_a_journal_as_any(self):
        for rng, book, journal in self.journals(184, 60):
            office = Office(book)
            groups = []
            for entry in journal.entries:
                if groups and groups[-1][0][-1] == entry[-1] and len(groups[-1]) < 20:
                    groups[-1].append(entry)
                else:
                    groups.append([entry])
            for group in groups:
                office.begin("w")
                for word, *values in group:
                    {"row": office.row, "fix": office.fix, "gone": office.gone}[word]("w", *values[:-1])
                self.assertEqual(office.close("w", group[0][-1]), len(group))
            self.assertEqual(office.journal, journal)
            for group in reversed(groups):
                self.assertEqual(office.journal.entries[-len(group):], tuple(group))
                office.undo()
            self.assertEqual(office.journal, Journal(book))


class Errors(unittest.TestCase):
    def test_each_error_stands_directly_under_the_base(self):
        self.assertEqual(errors.HallError.__bases__, (ValueError,))
        found = [one for one in vars(errors).values() if isinstance(one, type)]
        self.assertEqual(len(found), 26)
        for one in found:
            if one is not errors.HallError:
                self.assertEqual(one.__bases__, (errors.HallError,))


if __name__ == "__main__":
    unittest.main()
