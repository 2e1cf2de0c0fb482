"""Lines: writing [56], reading [57], read one way [58], journals as texts [59]."""

import random
import string
import unittest

from asofhall.books import Book
from asofhall.errors import BadBook, BadEntry, BadForm, BadJournal, BadLine, TooMany
from asofhall.forms import Form, is_single, twice
from asofhall.journals import Journal
from asofhall.lines import read_journal, read_line, readings, write_journal, write_line
from tests import form_models, models
from tests.ask_tests import row
from tests.helpers import FIELDS, errors_in_order, fails, not_made_of, odd_values, picture, plain_form, shape

FORM = plain_form()
BOOK = Book({"a": 3, "b": 0})
BARE = Form(*[shape(*["$" + word for word in fields]) for fields in FIELDS.values()])
# The fields in another order than in the entries.
TURNED = Form(
    shape("[", "$arrival", "|", "$amount", "|", "$key", "|", "$stream", "|", "$id", "|", "$moment", "]"),
    shape("$amount", "@", "$moment", "#", "$id", ",", "$arrival"), shape("$arrival", "-", "$id"))


def random_entry(rng):
    """An entry of any values."""
    def number():
        return rng.choice((0, 1, -1, 7, -10, rng.randrange(-10 ** 4, 10 ** 4), 10 ** 12))

    def name():
        return "".join(rng.choice(string.ascii_lowercase) for _ in range(rng.randrange(1, 9)))

    word = rng.choice(("row", "fix", "gone"))
    values = {"id": abs(number()), "stream": name(), "key": name(), "moment": number(), "amount": number(), "arrival": number()}
    return (word, *[values[field] for field in FIELDS[word]])


class Writing(unittest.TestCase):
    def test_pieces_one_behind_the_other(self):
        entry = ("row", 12, "a", "key", -3, 0, 10)
        for form, text in [(FORM, "row 12 a key -3 0 10"), (BARE, "12akey-3010"), (TURNED, "[10|0|key|a|12|-3]")]:
            self.assertEqual(write_line(form, entry), text)
        for form, text in [(FORM, "fix 0 -1 2 -30"), (BARE, "0-12-30"), (TURNED, "2@-1#0,-30")]:
            self.assertEqual(write_line(form, ("fix", 0, -1, 2, -30)), text)
        for form, text in [(FORM, "gone 5 0"), (BARE, "50"), (TURNED, "0-5")]:
            self.assertEqual(write_line(form, ("gone", 5, 0)), text)

    def test_long_integers_and_any_stream(self):
        digits = "9" * 1000
        self.assertEqual(write_line(FORM, ("gone", int(digits), -int(digits))), f"gone {digits} -{digits}")
        self.assertEqual(write_line(FORM, ("row", 0, "abcdefgh", "k", 0, 0, 0)), "row 0 abcdefgh k 0 0 0")

    def test_what_is_no_entry(self):
        for thing in [*odd_values(), ("row", 0, "a", "k", 0, 0), ("row", -1, "a", "k", 0, 0, 0), ("row", 0, "A", "k", 0, 0, 0),
                      ("row", 0, "a", "", 0, 0, 0), ("fix", 0, 0, 0, None), ("fix", 0, 0, True, 0), ("gone", 0), ("gone", True, 0),
                      ["gone", 0, 0], ("Gone", 0, 0), ("row", 0, "a", "k", 0, 0, None)]:
            if thing not in (("row", 0, "a", "k", 0, 0, 0), ("gone", 0, 0)):
                fails(self, BadEntry, {"at": 0}, write_line, FORM, thing)


class Reading(unittest.TestCase):
    def test_a_line_that_is_written_is_read_as_the_entry(self):
        rng = random.Random(151)
        for _ in range(400):
            entry = random_entry(rng)
            for form in (FORM, TURNED):
                text = write_line(form, entry)
                if len(text) <= 60:
                    self.assertEqual(readings(form, text), [entry])
                    self.assertEqual(read_line(form, text), entry)
            text = write_line(BARE, entry)
            if len(text) > 60:
                continue
            try:
                self.assertIn(entry, readings(BARE, text))
            except TooMany:
                fails(self, BadLine, {"number": 2}, read_line, BARE, text)

    def test_two_names_side_by_side(self):
        form = Form(shape("$stream", "$key", " ", "$id", " ", "$moment", " ", "$amount", " ", "$arrival"), FORM.shape("fix"), FORM.shape("gone"))
        for letters, many in [("a", 0), ("ab", 1), ("abc", 2), ("abcdefghi", 8), ("a" * 15, 2), ("a" * 16, 1), ("a" * 17, 0)]:
            found = readings(form, letters + " 1 2 3 4")
            self.assertEqual(found, [("row", 1, letters[:at], letters[at:], 2, 3, 4) for at in range(1, 9) if 1 <= len(letters) - at <= 8])
            self.assertEqual(len(found), many)
        self.assertEqual(read_line(form, "ab 1 2 3 4"), ("row", 1, "a", "b", 2, 3, 4))
        self.assertEqual(read_line(form, "a" * 16 + " 1 2 3 4"), ("row", 1, "a" * 8, "a" * 8, 2, 3, 4))

    def test_two_integers_side_by_side(self):
        form = Form(FORM.shape("row"), FORM.shape("fix"), shape("$id", "$arrival"))
        self.assertEqual(readings(form, "123"), [("gone", 1, 23), ("gone", 12, 3)])
        self.assertEqual(readings(form, "12"), [("gone", 1, 2)])
        self.assertEqual(readings(form, "1-23"), [("gone", 1, -23)])
        self.assertEqual(readings(form, "100"), [("gone", 10, 0)])
        self.assertEqual(readings(form, "1001"), [("gone", 100, 1)])
        self.assertEqual(readings(form, "012"), [("gone", 0, 12)])
        for text in ("1", "-12", "1-", "1--2", "1-02", "00-0", "-0", "0-", "001", "+12", "1 2", "1_2", "\uff11\uff12", "1\u0662"):
            self.assertEqual(readings(form, text), [], text)
            fails(self, BadLine, {"number": 0}, read_line, form, text)
        # An id has no sign, but a moment does.
        turned = Form(FORM.shape("row"), FORM.shape("fix"), shape("$arrival", "$id"))
        self.assertEqual(readings(turned, "-12"), [("gone", 2, -1)])
        self.assertEqual(readings(turned, "1-2"), [])

    def test_kinds_in_order_and_each_ascending(self):
        bare = ["$" + word for word in FIELDS["fix"]]
        form = Form(BARE.shape("row"), shape(*bare), BARE.shape("gone"))
        found = readings(form, "12345")
        self.assertEqual(found, [
            ("fix", 1, 2, 3, 45), ("fix", 1, 2, 34, 5), ("fix", 1, 23, 4, 5), ("fix", 12, 3, 4, 5),
            ("gone", 1, 2345), ("gone", 12, 345), ("gone", 123, 45), ("gone", 1234, 5)])
        # Where id stands last, the greatest ids are read first, but told last.
        turned = Form(BARE.shape("row"), shape(*bare[::-1]), shape("$arrival", "$id"))
        self.assertEqual(readings(turned, "1234"), [("fix", 4, 3, 2, 1), ("gone", 4, 123), ("gone", 34, 12), ("gone", 234, 1)])
        self.assertEqual(readings(BARE, "1ab2345")[:1], [("row", 1, "a", "b", 2, 3, 45)])

    def test_as_all_parts_tell(self):
        rng = random.Random(152)
        many = doubtful = 0
        for _ in range(250):
            form = form_models.random_form(rng, 2)
            for _ in range(6):
                entry = random_entry(rng)
                text = write_line(form, (entry[0], *[one % 100 if isinstance(one, int) else one[:3] for one in entry[1:]]))
                if rng.randrange(4) == 0:
                    at = rng.randrange(len(text))
                    text = text[:at] + rng.choice("01a- ~") + text[at + rng.randrange(2):]
                expected = form_models.readings(form, text)
                if len(expected) > 50:
                    fails(self, TooMany, {}, readings, form, text)
                    continue
                before = picture(form)
                self.assertEqual(readings(form, text), expected)
                self.assertEqual(picture(form), before)
                for entry in expected:
                    self.assertEqual(write_line(form, entry), text)
                if len(expected) == 1:
                    self.assertEqual(read_line(form, text), expected[0])
                else:
                    fails(self, BadLine, {"number": min(2, len(expected))}, read_line, form, text)
                    doubtful += len(expected) > 1
                many += 1
        self.assertGreater(doubtful, 100)
        self.assertGreater(many, 1000)

    def test_50_readings_and_51(self):
        form = Form(FORM.shape("row"), FORM.shape("fix"), shape("$id", "$arrival"))
        self.assertEqual(len(readings(form, "1" * 51)), 50)
        fails(self, TooMany, {}, readings, form, "1" * 52)
        fails(self, BadLine, {"number": 2}, read_line, form, "1" * 51)
        fails(self, BadLine, {"number": 2}, read_line, form, "1" * 52)
        # All kinds count together: 45 fixes of two numbers and 6 gones are 51.
        both = Form(FORM.shape("row"), shape("$id", "$moment", "=1=", "$amount", "$arrival"), shape("$id", "=1=", "$arrival"))
        self.assertEqual(len(readings(both, "1" * 6 + "=1=" + "1" * 10)), 5 * 9 + 1)
        self.assertEqual(len(readings(both, "1" * 8 + "=1=" + "1" * 8)), 7 * 7 + 1)
        fails(self, TooMany, {}, readings, both, "1" * 6 + "=1=" + "1" * 12)
        fails(self, TooMany, {}, readings, both, "1" * 26 + "=1=" + "1" * 3)
        for text in ("1" * 60, "1" * 20 + "a" * 16 + "2" * 24, "9" * 10 + "ab" + "9" * 48):
            fails(self, TooMany, {}, readings, BARE, text)
            fails(self, BadLine, {"number": 2}, read_line, BARE, text)

    def test_texts_of_60_characters_and_of_61(self):
        for digits, error in ((53, None), (54, BadLine)):
            text = "gone 1 " + "7" * digits
            if error is None:
                self.assertEqual(len(text), 60)
                self.assertEqual(readings(FORM, text), [("gone", 1, int("7" * digits))])
                self.assertEqual(read_line(FORM, text), ("gone", 1, int("7" * digits)))
            else:
                fails(self, BadLine, {"number": 0}, readings, FORM, text)
                fails(self, BadLine, {"number": 0}, read_line, FORM, text)
        self.assertEqual(readings(FORM, "x" * 60), [])

    def test_the_empty_text_and_texts_without_readings(self):
        for text in ("", " ", "row", "gone 1", "gone 1 2 ", " gone 1 2", "gone  1 2", "gone 1 2\n", "GONE 1 2", "gone -1 2", "gone 01 2", "gone 1 -0",
                     "row 1 a b 1 2", "row 1 abcdefghi k 1 2 3", "row 1 a1 k 1 2 3", "row 1 \u00e4 k 1 2 3", "fix 1 2 3 4 5"):
            self.assertEqual(readings(FORM, text), [])
            fails(self, BadLine, {"number": 0}, read_line, FORM, text)

    def test_values_that_are_no_texts(self):
        for thing in [*not_made_of(str), "x" * 61, "x" * 10 ** 6]:
            fails(self, BadLine, {"number": 0}, readings, FORM, thing)
            fails(self, BadLine, {"number": 0}, read_line, FORM, thing)
            fails(self, BadLine, {"number": 0}, read_line, BARE, thing)


class OneWay(unittest.TestCase):
    def test_a_form_is_single_exactly_if_no_text_is_read_twice(self):
        rng = random.Random(153)
        single = 0
        for _ in range(120):
            form = form_models.random_form(rng, 2)
            text = twice(form)
            if text is not None and len(text) <= 60:
                fails(self, BadLine, {"number": 2}, read_line, form, text)
                self.assertGreater(len(readings(form, text)), 1)
            if is_single(form):
                single += 1
                for _ in range(30):
                    entry = random_entry(rng)
                    line = write_line(form, entry)
                    if len(line) <= 60:
                        self.assertEqual(readings(form, line), [entry])
        self.assertGreater(single, 20)


class Journals(unittest.TestCase):
    def test_there_and_back(self):
        rng = random.Random(154)
        for _ in range(80):
            lates = {"a": rng.randrange(4), "b": rng.randrange(3)}
            journal = Journal(Book(lates), models.random_entries(rng, lates, rng.randrange(30)))
            for form in (FORM, TURNED):
                text = write_journal(form, journal)
                self.assertEqual(text, "\n".join(write_line(form, entry) for entry in journal.entries))
                self.assertEqual(read_journal(form, Book(lates), text), journal)

    def test_no_entries_one_and_two(self):
        self.assertEqual(write_journal(FORM, Journal(BOOK)), "")
        self.assertEqual(read_journal(FORM, BOOK, ""), Journal(BOOK))
        one = Journal(BOOK, [row(0, "a", 1, 2, 3)])
        self.assertEqual(write_journal(FORM, one), "row 0 a k 1 3 2")
        self.assertEqual(read_journal(FORM, BOOK, "row 0 a k 1 3 2"), one)
        self.assertEqual(write_journal(FORM, one.then(("gone", 0, 4))), "row 0 a k 1 3 2\ngone 0 4")
        self.assertEqual(read_journal(FORM, BOOK, "row 0 a k 1 3 2\ngone 0 4"), one.then(("gone", 0, 4)))

    def test_lines_that_are_not_read_one_way(self):
        good = "row 0 a k 1 3 2"
        for text, number in [
                ("\n", 1), (" ", 1), (good + "\n", 2), ("\n" + good, 1), (good + "\n\n" + good, 2), (good + "\r\ngone 0 4", 1), (good + "\x0bgone 0 4", 1),
                (good + "\ngone 0 4\ngone 0 5\nx", 4), (good + "\ngone 0 " + "1" * 54, 2), ("x\n" + "y" * 100, 1), (good + "\u2028" + good, 1)]:
            fails(self, BadLine, {"number": number}, read_journal, FORM, BOOK, text)
        doubt = Form(FORM.shape("row"), FORM.shape("fix"), shape("$id", "$arrival"))
        self.assertEqual(len(read_journal(doubt, BOOK, good + "\n04")), 2)
        fails(self, BadLine, {"number": 2}, read_journal, doubt, BOOK, good + "\n123")
        # More readings than 50 are several, too.
        fails(self, BadLine, {"number": 3}, read_journal, doubt, BOOK, good + "\n04\n" + "1" * 60)

    def test_lines_ahead_of_entries(self):
        lines = ["row 0 a k 1 3 2", "row 1 b k 2 3 2", "gone 7 2", "fix 0 3 3 3"]
        fails(self, BadEntry, {"at": 2}, read_journal, FORM, BOOK, "\n".join(lines))
        fails(self, BadLine, {"number": 4}, read_journal, FORM, BOOK, "\n".join([*lines[:3], "x"]))
        fails(self, BadEntry, {"at": 0}, read_journal, FORM, BOOK, "row 0 z k 1 3 2")
        # A journal has at most 400 entries.
        many = [f"row {number} b k 1 1 1" for number in range(401)]
        self.assertEqual(len(read_journal(FORM, BOOK, "\n".join(many[:400]))), 400)
        fails(self, BadEntry, {"at": -1}, read_journal, FORM, BOOK, "\n".join(many))
        fails(self, BadLine, {"number": 402}, read_journal, FORM, BOOK, "\n".join([*many, "x"]))

    def test_errors_in_order(self):
        errors_in_order(self, read_journal, (FORM, BOOK, ""), [
            (0, FORM.shape("row"), BadForm, {"value": FORM.shape("row")}), (1, {"a": 1}, BadBook, {"value": {"a": 1}}), (2, None, BadLine, {"number": 0})])
        for thing in not_made_of(Book):
            fails(self, BadBook, {"value": thing}, read_journal, FORM, thing, None)
        for thing in not_made_of(str):
            fails(self, BadLine, {"number": 0}, read_journal, FORM, BOOK, thing)
        for thing in not_made_of(Journal):
            fails(self, BadJournal, {"value": thing}, write_journal, FORM, thing)
        for thing in not_made_of(Form):
            for call, more in [(write_line, (None,)), (readings, (None,)), (read_line, (None,)), (write_journal, (None,)), (read_journal, (None, None))]:
                fails(self, BadForm, {"value": thing}, call, thing, *more)


if __name__ == "__main__":
    unittest.main()
