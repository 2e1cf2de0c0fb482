"""Point 6, and points 2 and 3 as far as they touch books."""

import unittest

from asofhall.books import Book
from asofhall.errors import BadBook, BadName
from tests.helpers import fails, not_integers, not_names, odd_values

EIGHT = {"abcdefgh"[:n]: n for n in range(1, 9)}


class Books(unittest.TestCase):
    def test_streams_ascend(self):
        self.assertEqual(Book({"b": 1, "a": 2, "ab": 3}).streams(), ["a", "ab", "b"])

    def test_late_tells_the_lateness(self):
        book = Book({"b": 0, "a": 10 ** 6, "last": 7})
        self.assertEqual([book.late(stream) for stream in ("a", "b", "last")], [10 ** 6, 0, 7])

    def test_one_and_eight_streams(self):
        self.assertEqual(Book({"z": 0}).streams(), ["z"])
        self.assertEqual(Book(EIGHT).streams(), sorted(EIGHT))

    def test_none_and_nine_streams(self):
        for lates in ({}, {**EIGHT, "z": 1}):
            fails(self, BadBook, {"value": lates}, Book, lates)

    def test_lateness_at_its_limits(self):
        self.assertEqual(Book({"a": 0}).late("a"), 0)
        self.assertEqual(Book({"a": 10 ** 6}).late("a"), 10 ** 6)
        for late in (-1, 10 ** 6 + 1, 10 ** 30, -10 ** 5000, 10 ** 5000):
            lates = {"a": late}
            fails(self, BadBook, {"value": lates}, Book, lates)

    def test_lateness_of_another_kind(self):
        for late in not_integers():
            lates = {"b": 1, "a": late}
            fails(self, BadBook, {"value": lates}, Book, lates)

    def test_names_of_another_kind(self):
        for name in not_names():
            try:
                lates = {"a": 1, name: 1}
            except TypeError:
                continue
            fails(self, BadBook, {"value": lates}, Book, lates)

    def test_lates_of_another_kind(self):
        for lates in odd_values():
            if type(lates) is dict and lates == {"a": 1} and type(lates["a"]) is int:
                continue
            fails(self, BadBook, {"value": lates}, Book, lates)

    def test_the_error_keeps_the_very_thing(self):
        lates = {"A": [1]}
        with self.assertRaises(BadBook) as told:
            Book(lates)
        self.assertIs(told.exception.value, lates)

    def test_late_of_no_stream(self):
        book = Book({"b": 1})
        for stream in odd_values():
            fails(self, BadName, {"value": stream}, book.late, stream)
        fails(self, BadName, {"value": "bb"}, book.late, "bb")

    def test_equal_books(self):
        self.assertTrue(Book({"a": 1, "b": 2}) == Book({"b": 2, "a": 1}))
        self.assertFalse(Book({"a": 1, "b": 2}) != Book({"b": 2, "a": 1}))
        for lates in ({"a": 1}, {"a": 1, "b": 3}, {"a": 1, "c": 2}, {"a": 1, "b": 2, "c": 2}):
            self.assertTrue(Book({"a": 1, "b": 2}) != Book(lates))
        for thing in odd_values():
            self.assertFalse(Book({"a": 1}) == thing)

    def test_a_dict_that_was_handed_in_is_copied(self):
        lates = {"a": 1}
        book = Book(lates)
        lates["b"] = 2
        lates["a"] = 5
        self.assertEqual(book.streams(), ["a"])
        self.assertEqual(book.late("a"), 1)
        self.assertEqual(book, Book({"a": 1}))

    def test_a_list_that_was_told_is_a_new_one(self):
        book = Book({"b": 1, "a": 2})
        book.streams().append("c")
        book.streams().clear()
        self.assertEqual(book.streams(), ["a", "b"])
