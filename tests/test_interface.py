"""The interface: each name is defined in the file under which it is listed."""

import ast
import importlib
import os
import unittest

# A class has the list of its methods, a function None.
LISTED = {
    "books": {"Book": ["streams", "late", "__eq__"]},
    "journals": {"Journal": [
        "__len__", "latest", "then", "heard", "only", "without", "__or__", "rows", "key_names", "__eq__"]},
    "worlds": {"World": ["rows", "__len__", "__eq__"], "world_of": None},
    "moments": {
        "Term": ["__add__", "__sub__", "__or__", "later", "earlier", "__eq__", "streams"],
        "Now": [], "Last": [], "Next": [], "Shift": [], "Either": [], "Later": [], "Earlier": []},
    "amounts": {"Amount": ["__eq__", "streams"], "Number": [], "Count": [], "Total": [], "Gap": []},
    "answers": {"value": None, "support": None, "seen_from": None},
    "wordings": {"worded": None, "read_question": None},
    "facts": {"ring": None, "solution": None, "is_ring": None},
    "verdicts": dict.fromkeys((
        "alike", "covers", "parting", "lacking", "is_parting", "paper", "cover_paper", "is_paper", "is_cover_paper")),
    "leads": {"lead": None, "reaching": None, "lead_paper": None, "is_lead_paper": None},
    "waits": dict.fromkeys(("least_wait", "enough_wait", "unsettled", "is_unsettled", "wait_paper", "is_wait_paper")),
    "finals": {"final": None, "changing": None, "is_changing": None},
    "needs": {"is_keepable": None, "needed": None, "why_needed": None, "is_why": None},
    "keepers": {"Keeper": ["feed", "hear", "held", "answer", "copy"]},
    "plans": {"steps": None, "Plan": ["kept", "merges", "run", "why", "classes"]},
    "bulletins": {"bulletins": None},
    "servers": {"Server": ["feed", "hear", "told", "unclosed", "undo"]},
    "offices": {"Office": ["writers", "begin", "row", "fix", "gone", "drop", "undo", "draft", "close"]},
    "forms": {"Form": ["shape", "__eq__"], "is_single": None, "twice": None},
    "lines": dict.fromkeys(("write_line", "readings", "read_line", "write_journal", "read_journal")),
    "replays": {"cut": None, "joined": None, "by_keys": None, "replay": None},
    "halls": {"Hall": ["line", "ask", "hear", "undo", "trial", "asks", "ticks", "told", "lines", "plan", "same"]},
}


class Interface(unittest.TestCase):
    def test_each_name_is_defined_in_its_file(self):
        for name, listed in LISTED.items():
            module = importlib.import_module("asofhall." + name)
            with open(module.__file__, encoding="utf-8") as held:
                body = ast.parse(held.read()).body
            for word, methods in listed.items():
                found = [node for node in body if getattr(node, "name", None) == word]
                self.assertEqual(len(found), 1, word)
                self.assertIsInstance(found[0], ast.FunctionDef if methods is None else ast.ClassDef)
                made = [node.name for node in found[0].body if isinstance(node, ast.FunctionDef)]
                self.assertLessEqual(set(methods or []), set(made), word)

    def test_the_package_holds_no_tests(self):
        folder = os.path.dirname(importlib.import_module("asofhall").__file__)
        self.assertIn("__init__.py", os.listdir(folder))
        self.assertFalse([name for name in os.listdir(folder) if name.startswith("test")])
