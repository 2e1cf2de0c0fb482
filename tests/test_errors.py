"""Point 4 and the interface of asofhall.errors."""

import unittest

from asofhall import errors
from asofhall.errors import HallError
from tests.helpers import odd_values

KEPT = {
    "BadName": "value", "BadBook": "value", "BadEntry": "at", "BadMoment": "value", "BadRows": "at",
    "BadTerm": "value", "BadQuestion": "value", "BadWorld": "value", "BadText": "place", "BadFact": "at",
    "BadWait": "value", "BadJournal": "value", "BadId": "value", "BadIndex": "value", "BadAsk": "name",
    "BadTicks": "at", "BadForm": "value", "BadLine": "number", "Busy": "writer", "Idle": "writer", "Stale": "id",
    "NotHeard": None, "NothingDone": None, "NoPaper": None, "TooMany": None,
}


class Errors(unittest.TestCase):
    def test_all_stand_directly_under_the_base(self):
        self.assertEqual(HallError.__bases__, (ValueError,))
        for name in KEPT:
            self.assertEqual(getattr(errors, name).__bases__, (HallError,), name)

    def test_there_are_no_others(self):
        found = [name for name, thing in vars(errors).items() if isinstance(thing, type)]
        self.assertEqual(sorted(found), sorted([*KEPT, "HallError"]))

    def test_each_keeps_what_it_is_given(self):
        for name, attribute in KEPT.items():
            if attribute is None:
                self.assertEqual(vars(getattr(errors, name)()), {}, name)
                continue
            for thing in odd_values():
                error = getattr(errors, name)(thing)
                self.assertEqual(list(vars(error)), [attribute])
                self.assertIs(getattr(error, attribute), thing)

    def test_each_can_be_written(self):
        for name, attribute in KEPT.items():
            given = [] if attribute is None else [10 ** 5000]
            self.assertIsInstance(str(getattr(errors, name)(*given)), str)
