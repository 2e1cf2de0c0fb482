"""The interface: each name is defined in the file under which it is listed."""

import ast
import importlib
import inspect
import os
import unittest

from asofhall.books import Book
from asofhall.halls import Hall
from asofhall.journals import Journal
from asofhall.moments import Now
from asofhall.offices import Office
from asofhall.plans import Plan
from asofhall.servers import Server
from tests.helpers import plain_form

# A class has the list of its methods, a function None.
LISTED = {
    "books": {"Book": ["streams", "late", "__eq__"]},
    "journals": {"Journal": [
        "__len__", "latest", "then", "heard", "only", "without", "__or__", "rows", "key_names", "__eq__"]},
    "worlds": {"World": ["rows", "__len__", "__eq__"], "world_of": None},
    "moments": {
        "Term": ["__add__", "__sub__", "__or__", "later", "earlier", "__eq__", "streams"],
        "Now": [], "Last": [], "Next": [], "Shift": [], "Either": [], "Later": [], "Earlier": []},
    "amounts": {"Amount": ["__eq__", "streams"], "Number": [], "Count": [], "Total": [], "Gap": []},
    "answers": {"value": None, "support": None, "seen_from": None},
    "wordings": {"worded": None, "read_question": None},
    "facts": {"ring": None, "solution": None, "is_ring": None},
    "verdicts": dict.fromkeys((
        "alike", "covers", "parting", "lacking", "is_parting", "paper", "cover_paper", "is_paper", "is_cover_paper")),
    "leads": {"lead": None, "reaching": None, "lead_paper": None, "is_lead_paper": None},
    "waits": dict.fromkeys(("least_wait", "enough_wait", "unsettled", "is_unsettled", "wait_paper", "is_wait_paper")),
    "finals": {"final": None, "changing": None, "is_changing": None},
    "needs": {"is_keepable": None, "needed": None, "why_needed": None, "is_why": None},
    "keepers": {"Keeper": ["feed", "hear", "held", "answer", "copy"]},
    "plans": {"steps": None, "Plan": ["kept", "merges", "run", "why", "classes"]},
    "bulletins": {"bulletins": None},
    "servers": {"Server": ["feed", "hear", "told", "unclosed", "undo"]},
    "offices": {"Office": ["writers", "begin", "row", "fix", "gone", "drop", "undo", "draft", "close"]},
    "forms": {"Form": ["shape", "__eq__"], "is_single": None, "twice": None},
    "lines": dict.fromkeys(("write_line", "readings", "read_line", "write_journal", "read_journal")),
    "replays": {"cut": None, "joined": None, "by_keys": None, "replay": None},
    "halls": {"Hall": ["line", "ask", "hear", "undo", "trial", "asks", "ticks", "told", "lines", "plan", "same"]},
}
# How many arguments each function, class and method takes: at least, and at most.
TAKES = {
    "books": {"Book": (1, 1), "Book.late": (1, 1), "Book.streams": (0, 0)},
    "journals": {
        "Journal": (1, 2), "Journal.latest": (0, 0), "Journal.then": (1, 1), "Journal.heard": (1, 1), "Journal.only": (1, 1),
        "Journal.without": (1, 1), "Journal.rows": (2, 2), "Journal.key_names": (0, 0)},
    "worlds": {"World": (1, 1), "World.rows": (1, 1), "world_of": (2, 2)},
    "moments": {"Now": (0, 0), "Last": (2, 2), "Next": (2, 2), "Term.later": (1, 1), "Term.earlier": (1, 1), "Term.streams": (0, 0)},
    "amounts": {"Number": (2, 2), "Count": (3, 3), "Total": (3, 3), "Gap": (2, 2), "Amount.streams": (0, 0)},
    "answers": {"value": (3, 3), "support": (3, 3), "seen_from": (2, 2)},
    "wordings": {"worded": (1, 1), "read_question": (1, 1)},
    "facts": {"ring": (2, 2), "solution": (2, 2), "is_ring": (2, 2)},
    "verdicts": {
        "alike": (2, 2), "covers": (2, 2), "parting": (2, 2), "lacking": (2, 2), "is_parting": (3, 3), "paper": (2, 2),
        "cover_paper": (2, 2), "is_paper": (3, 3), "is_cover_paper": (3, 3)},
    "leads": {"lead": (2, 2), "reaching": (3, 3), "lead_paper": (3, 3), "is_lead_paper": (4, 4)},
    "waits": {
        "least_wait": (2, 2), "enough_wait": (2, 2), "unsettled": (3, 3), "is_unsettled": (4, 4), "wait_paper": (3, 3),
        "is_wait_paper": (4, 4)},
    "finals": {"final": (5, 5), "changing": (5, 5), "is_changing": (6, 6)},
    "needs": {"is_keepable": (1, 1), "needed": (3, 3), "why_needed": (4, 4), "is_why": (5, 5)},
    "keepers": {
        "Keeper": (2, 2), "Keeper.feed": (1, 1), "Keeper.hear": (1, 1), "Keeper.held": (0, 0), "Keeper.answer": (2, 2),
        "Keeper.copy": (0, 0)},
    "plans": {"steps": (1, 1), "Plan": (1, 1), "Plan.run": (2, 2), "Plan.why": (1, 1), "Plan.classes": (0, 0)},
    "bulletins": {"bulletins": (3, 3)},
    "servers": {
        "Server": (2, 2), "Server.feed": (1, 1), "Server.hear": (1, 1), "Server.told": (1, 1), "Server.unclosed": (0, 0),
        "Server.undo": (0, 0)},
    "offices": {
        "Office": (1, 2), "Office.writers": (0, 0), "Office.begin": (1, 1), "Office.row": (6, 6), "Office.fix": (4, 4),
        "Office.gone": (2, 2), "Office.drop": (1, 1), "Office.undo": (0, 0), "Office.draft": (1, 1), "Office.close": (2, 2)},
    "forms": {"Form": (3, 3), "Form.shape": (1, 1), "is_single": (1, 1), "twice": (1, 1)},
    "lines": {"write_line": (2, 2), "readings": (2, 2), "read_line": (2, 2), "write_journal": (2, 2), "read_journal": (3, 3)},
    "replays": {"cut": (2, 2), "joined": (1, 1), "by_keys": (1, 1), "replay": (4, 4)},
    "halls": {
        "Hall": (2, 2), "Hall.line": (1, 1), "Hall.ask": (4, 4), "Hall.hear": (1, 1), "Hall.undo": (0, 0), "Hall.trial": (1, 1),
        "Hall.asks": (0, 0), "Hall.ticks": (0, 0), "Hall.told": (0, 0), "Hall.lines": (0, 0), "Hall.plan": (0, 0), "Hall.same": (1, 1)},
}


class Interface(unittest.TestCase):
    def test_how_many_arguments_each_takes(self):
        for name, listed in TAKES.items():
            module = importlib.import_module("asofhall." + name)
            for word, bounds in listed.items():
                taken = module
                for part in word.split("."):
                    taken = getattr(taken, part)
                given = list(inspect.signature(taken).parameters.values())[word.count("."):]
                least = [one for one in given if one.default is inspect.Parameter.empty]
                self.assertEqual((len(least), len(given)), bounds, word)
                self.assertTrue(all(one.kind is inspect.Parameter.POSITIONAL_OR_KEYWORD for one in given), word)

    def test_attributes_are_there_from_the_beginning(self):
        book, form = Book({"a": 0}), plain_form()
        for thing, names in [
                (Journal(book), ["book", "entries"]), (Plan([Now()]), ["kept", "merges"]), (Server(book, {"x": (Now(), "k", 0)}), ["journal"]),
                (Office(book), ["journal"]), (Hall(book, form), ["journal"]), (Now(), ["depth", "parts", "looks", "choices"])]:
            for name in names:
                self.assertTrue(hasattr(thing, name), name)

    def test_each_name_is_defined_in_its_file(self):
        for name, listed in LISTED.items():
            module = importlib.import_module("asofhall." + name)
            with open(module.__file__, encoding="utf-8") as held:
                body = ast.parse(held.read()).body
            for word, methods in listed.items():
                found = [node for node in body if getattr(node, "name", None) == word]
                self.assertEqual(len(found), 1, word)
                self.assertIsInstance(found[0], ast.FunctionDef if methods is None else ast.ClassDef)
                made = [node.name for node in found[0].body if isinstance(node, ast.FunctionDef)]
                self.assertLessEqual(set(methods or []), set(made), word)

    def test_the_package_holds_no_tests(self):
        folder = os.path.dirname(importlib.import_module("asofhall").__file__)
        self.assertIn("__init__.py", os.listdir(folder))
        self.assertFalse([name for name in os.listdir(folder) if name.startswith("test")])
