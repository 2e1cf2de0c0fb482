"""Point 13: worlds, and the world of a journal."""

import random
import unittest

from asofhall.books import Book
from asofhall.errors import BadJournal, BadName, BadRows
from asofhall.journals import Journal
from asofhall.worlds import World, world_of
from tests.helpers import fails, not_integers, not_made_of, not_names, odd_values
from tests.models import random_entries, standing


class Worlds(unittest.TestCase):
    def test_rows_ascend(self):
        world = World({"b": [(3, 1, 5), (1, 9, 5), (1, 2, 6)], "a": ((0, 0, 0),)})
        self.assertEqual(world.rows("b"), [(1, 2, 6), (1, 9, 5), (3, 1, 5)])
        self.assertEqual(world.rows("a"), [(0, 0, 0)])
        self.assertEqual(world.rows("c"), [])
        self.assertEqual(len(world), 4)

    def test_without_rows(self):
        for rows in ({}, {"a": []}, {"a": (), "b": []}):
            self.assertEqual(len(World(rows)), 0)
            self.assertEqual(World(rows).rows("a"), [])
            self.assertEqual(World(rows), World({}))

    def test_any_number_of_streams(self):
        rows = {"abcdefgh"[:n] + letter: [] for n in range(8) for letter in "xyz"}
        self.assertEqual(World(rows), World({}))

    def test_rows_of_another_kind(self):
        for thing in odd_values():
            if type(thing) is not dict or thing not in ({}, {"a": [(0, 0, 0)]}):
                fails(self, BadRows, {"at": -1}, World, thing)

    def test_names_of_another_kind(self):
        for name in not_names():
            try:
                rows = {"a": [], name: [(0, 0, 0)]}
            except TypeError:
                continue
            fails(self, BadRows, {"at": -1}, World, rows)

    def test_a_stream_s_rows_of_another_kind(self):
        for thing in odd_values():
            if thing not in ([], (), ((0, 0, 0),)):
                fails(self, BadRows, {"at": -1}, World, {"b": [(1, 1, 1)], "a": thing})

    def test_tuples_of_another_kind(self):
        for thing in odd_values():
            if type(thing) is not tuple or thing != (0, 0, 0):
                fails(self, BadRows, {"at": -1}, World, {"a": [(1, 1, 1), thing]})
        for thing in ([0, 0, 0], (0, 0), (0, 0, 0, 0)):
            fails(self, BadRows, {"at": -1}, World, {"a": [thing]})

    def test_integers_of_another_kind(self):
        for thing in not_integers():
            for row in ((thing, 0, 0), (0, thing, 0), (0, 0, thing)):
                fails(self, BadRows, {"at": -1}, World, {"a": [row]})

    def test_integers_of_any_size(self):
        rows = [(-10 ** 5000, 10 ** 5000, 10 ** 5000), (0, 0, -10 ** 5000)]
        self.assertEqual(World({"a": rows}).rows("a"), rows)
        for number in (-1, -10 ** 5000):
            fails(self, BadRows, {"at": -1}, World, {"a": [(0, number, 0)]})

    def test_an_id_that_occurs_twice(self):
        fails(self, BadRows, {"at": 0}, World, {"a": [(1, 0, 1), (1, 0, 1)]})
        fails(self, BadRows, {"at": 7}, World, {"a": [(1, 7, 1)], "b": [(2, 7, 1)]})
        fails(self, BadRows, {"at": 3}, World, {"a": [(1, 9, 1), (2, 9, 1), (1, 3, 1)], "b": [(1, 3, 1), (0, 1, 1)]})

    def test_kinds_come_ahead_of_ids(self):
        fails(self, BadRows, {"at": -1}, World, {"a": [(1, 7, 1), (1, 7, 1)], "b": [None]})
        fails(self, BadRows, {"at": -1}, World, {"a": [(1, 7, 1), (1, 7, 1)], "B": []})

    def test_400_and_401_rows(self):
        rows = [(0, number, 0) for number in range(401)]
        self.assertEqual(len(World({"a": rows[:400]})), 400)
        self.assertEqual(len(World({"a": rows[:200], "b": rows[200:400]})), 400)
        fails(self, BadRows, {"at": -1}, World, {"a": rows})
        fails(self, BadRows, {"at": -1}, World, {"a": rows[:200], "b": rows[200:]})
        fails(self, BadRows, {"at": 5}, World, {"a": [*rows, (0, 5, 0)]})

    def test_rows_of_no_name(self):
        world = World({"a": [(0, 0, 0)]})
        for stream in not_names():
            fails(self, BadName, {"value": stream}, world.rows, stream)

    def test_equal_worlds(self):
        world = World({"a": [(0, 0, 0), (1, 1, 1)], "b": [(2, 2, 2)]})
        self.assertTrue(world == World({"c": (), "b": ((2, 2, 2),), "a": ((1, 1, 1), (0, 0, 0))}))
        self.assertFalse(world != World({"c": (), "b": ((2, 2, 2),), "a": ((1, 1, 1), (0, 0, 0))}))
        self.assertTrue(world != World({"a": [(0, 0, 0), (1, 1, 1)], "c": [(2, 2, 2)]}))
        self.assertTrue(world != World({"a": [(0, 0, 0), (1, 1, 1)], "b": [(2, 2, 3)]}))
        self.assertTrue(world != World({"a": [(0, 0, 0), (1, 1, 1)]}))
        for thing in odd_values():
            self.assertFalse(world == thing)

    def test_what_was_handed_in_is_copied(self):
        rows = {"a": [(0, 0, 0)]}
        world = World(rows)
        rows["a"].append((1, 1, 1))
        rows["b"] = [(2, 2, 2)]
        self.assertEqual(world, World({"a": [(0, 0, 0)]}))
        self.assertEqual(len(world), 1)

    def test_what_was_handed_in_is_not_changed(self):
        rows = {"b": [(1, 1, 1), (0, 0, 0)], "a": []}
        World(rows)
        self.assertEqual(list(rows.items()), [("b", [(1, 1, 1), (0, 0, 0)]), ("a", [])])

    def test_a_list_that_was_told_is_a_new_one(self):
        world = World({"a": [(0, 0, 0)]})
        world.rows("a").clear()
        world.rows("b").append(5)
        self.assertEqual(world.rows("a"), [(0, 0, 0)])
        self.assertEqual(world.rows("b"), [])


class WorldOf(unittest.TestCase):
    def test_the_rows_that_stand_for_the_key(self):
        journal = Journal(Book({"a": 2, "b": 0}), [
            ("row", 0, "a", "k", 0, 5, 0), ("row", 1, "b", "k", 0, 6, 0), ("row", 2, "a", "l", 0, 7, 0),
            ("row", 3, "a", "k", 0, 8, 0), ("fix", 0, 1, 9, 1), ("gone", 3, 1)])
        self.assertEqual(world_of(journal, "k"), World({"a": [(1, 0, 9)], "b": [(0, 1, 6)]}))
        self.assertEqual(world_of(journal, "l"), World({"a": [(0, 2, 7)]}))
        self.assertEqual(world_of(journal, "m"), World({}))
        self.assertEqual(len(journal), 6)

    def test_journals_come_ahead_of_keys(self):
        for thing in not_made_of(Journal):
            fails(self, BadJournal, {"value": thing}, world_of, thing, "k")
            fails(self, BadJournal, {"value": thing}, world_of, thing, 5)
        journal = Journal(Book({"a": 2}))
        for thing in not_names():
            fails(self, BadName, {"value": thing}, world_of, journal, thing)

    def test_random_journals_as_the_model_tells(self):
        rng = random.Random(13)
        lates = {"a": 2, "b": 0}
        for _ in range(60):
            journal = Journal(Book(lates), random_entries(rng, lates, 25))
            for key in ("k", "l"):
                rows = {"a": [], "b": []}
                for one in standing(journal.entries):
                    if one[1] == key:
                        rows[one[0]].append(one[2:])
                self.assertEqual(world_of(journal, key), World(rows))
