"""Forms [55], and whether each line can be read one way alone [58]."""

import random
import unittest

from asofhall.errors import BadForm
from asofhall.forms import Form, is_single, twice
from asofhall.lines import readings
from tests import form_models
from tests.helpers import FIELDS, errors_in_order, fails, not_made_of, odd_values, picture, plain_form, shape

ROW = shape("$id", " ", "$stream", " ", "$key", " ", "$moment", " ", "$amount", " ", "$arrival")
FIX = shape("$id", "=", "$moment", "=", "$amount", "=", "$arrival")
GONE = shape("$id", "!", "$arrival")
FORM = Form(ROW, FIX, GONE)
# All fields side by side.
BARE = {word: shape(*["$" + field for field in fields]) for word, fields in FIELDS.items()}


class Forms(unittest.TestCase):
    def test_shapes(self):
        self.assertEqual([FORM.shape(word) for word in FIELDS], [ROW, FIX, GONE])
        form = Form(list(ROW), FIX, list(GONE))
        self.assertEqual(form.shape("row"), ROW)
        self.assertIs(type(form.shape("row")), tuple)

    def test_equal_ones(self):
        self.assertTrue(FORM == Form(list(ROW), list(FIX), GONE))
        self.assertFalse(FORM != Form(ROW, FIX, GONE))
        for other in (Form(FIX[:1] + ROW[1:], FIX, shape("$id", "?", "$arrival")), Form(ROW, shape("!", *["$" + word for word in FIELDS["fix"]]), GONE),
                      Form(BARE["row"], FIX, GONE), Form(ROW, FIX, GONE[::-1])):
            self.assertTrue(FORM != other)
            self.assertFalse(FORM == other)
        for thing in odd_values():
            self.assertFalse(FORM == thing)
        # Marks that stand side by side are no single mark, though they write the same.
        self.assertFalse(Form(ROW, FIX, shape("a", "b", *["$id", "$arrival"])) == Form(ROW, FIX, shape("ab", "$id", "$arrival")))

    def test_what_is_given_is_copied(self):
        row = list(ROW)
        form = Form(row, FIX, GONE)
        row.clear()
        self.assertEqual(form.shape("row"), ROW)
        self.assertEqual(form, FORM)

    def test_shapes_of_1_2_and_15_pieces_of_none_and_of_16(self):
        for many in (2, 15):
            gone = shape("$id", "$arrival", *["a"] * (many - 2))
            self.assertEqual(Form(ROW, FIX, gone).shape("gone"), gone)
        for gone in ((), [], shape("$id", "$arrival", *["a"] * 14), shape("$id"), shape("$arrival"), shape("a"), shape("a", "b")):
            fails(self, BadForm, {"value": "gone"}, Form, ROW, FIX, gone)
        row = shape(*["$" + word for word in FIELDS["row"]], *["a"] * 9)
        self.assertEqual(len(row), 15)
        self.assertEqual(Form(row, FIX, GONE).shape("row"), row)
        fails(self, BadForm, {"value": "row"}, Form, [*row, ("mark", "a")], FIX, GONE)

    def test_marks(self):
        for text in (" ", "~", "a", "abcdef", "      ", "\\n", "$#\"'%", "0", "-", "id"):
            form = Form(ROW, FIX, [*GONE, ("mark", text)])
            self.assertEqual(form.shape("gone")[-1], ("mark", text))
        for text in ("", "abcdefg", "\n", "a\tb", "\x1f", "\x7f", "\u00e9", "a\n", "\x00", b"a", 1, None, True, ("a",), ["a"]):
            fails(self, BadForm, {"value": "gone"}, Form, ROW, FIX, [*GONE, ("mark", text)])
        for thing in odd_values():
            if type(thing) is not str or not 1 <= len(thing) <= 6 or "\n" in thing or not thing.isascii():
                fails(self, BadForm, {"value": "gone"}, Form, ROW, FIX, (("mark", thing), *GONE))

    def test_fields_each_exactly_once(self):
        for word, fields in FIELDS.items():
            place = ("row", "fix", "gone").index(word)
            whole = [("field", field) for field in fields]
            others = [field for field in (*FIELDS["row"], "", "row", "ID", "id ", "late", "mark") if field not in fields]
            wrong = [whole[1:], whole[:-1], whole + whole[:1], whole + whole[-1:], whole[1:] + whole[1:2]]
            wrong += [[*whole, ("field", field)] for field in others]
            wrong += [[*whole[:-1], ("field", field)] for field in others]
            wrong += [[*whole[:-1], ("mark", fields[-1][:6])], [*whole[:-1], ["field", fields[-1]]], [*whole, ("mark", "a", "b")],
                      [*whole, ("mark",)], [*whole, ("Mark", "a")], [*whole, (True, "a")], [*whole, None], [*whole, "mark"]]
            for pieces in wrong:
                shapes = [ROW, FIX, GONE]
                shapes[place] = pieces
                fails(self, BadForm, {"value": word}, Form, *shapes)
            shapes[place] = whole[::-1]
            self.assertEqual(Form(*shapes).shape(word), tuple(whole[::-1]))

    def test_values_of_other_kinds(self):
        for thing in odd_values():
            fails(self, BadForm, {"value": "row"}, Form, thing, None, GONE)
            fails(self, BadForm, {"value": "fix"}, Form, ROW, thing, thing)
            fails(self, BadForm, {"value": "gone"}, Form, ROW, FIX, thing)
            fails(self, BadForm, {"value": "gone"}, Form, ROW, FIX, [thing, *GONE])
        errors_in_order(self, Form, (ROW, FIX, GONE), [
            (0, FIX, BadForm, {"value": "row"}), (1, GONE, BadForm, {"value": "fix"}), (2, ROW, BadForm, {"value": "gone"})])

    def test_words_of_no_shape(self):
        for thing in odd_values():
            if thing != "row":
                fails(self, BadForm, {"value": thing}, FORM.shape, thing)
        for word in ("", "Row", "rows", "fixes", "goner", "id"):
            fails(self, BadForm, {"value": word}, FORM.shape, word)


class Single(unittest.TestCase):
    def single(self, row=ROW, fix=FIX, gone=GONE):
        form = Form(row, fix, gone)
        before = picture(form)
        self.assertIs(is_single(form), True)
        self.assertIsNone(twice(form))
        self.assertEqual(picture(form), before)

    def doubtful(self, many, row=ROW, fix=FIX, gone=GONE):
        """Asserts that the shortest texts with two readings have so many characters."""
        form = Form(row, fix, gone)
        text = twice(form)
        self.assertIs(is_single(form), False)
        self.assertIs(type(text), str)
        self.assertRegex(text, "^[ -~]*$")
        self.assertEqual(len(text), many)
        self.assertGreater(len(form_models.readings(form, text)), 1)

    def test_marks_between_all_fields(self):
        self.single()
        self.assertTrue(is_single(plain_form()))

    def test_two_integers_side_by_side(self):
        self.doubtful(3, gone=BARE["gone"])
        self.doubtful(3, gone=BARE["gone"][::-1])
        self.doubtful(4, gone=shape("$id", "$arrival", "!"))
        self.doubtful(7, fix=shape("$id", "=", "$moment", "=", "$amount", "$arrival"))
        # A 1 as the mark does not hold them apart; a sign does not always.
        self.doubtful(5, gone=shape("$id", "11", "$arrival"))
        self.single(gone=shape("$id", "-", "$arrival"), fix=shape("$id", "=", "$moment", "=", "$amount", "=", "$arrival"))

    def test_two_names_side_by_side(self):
        self.doubtful(11, row=shape("$id", " ", "$stream", "$key", " ", "$moment", " ", "$amount", " ", "$arrival"))
        # Together with a letter between them.
        self.doubtful(12, row=shape("$id", " ", "$stream", "a", "$key", " ", "$moment", " ", "$amount", " ", "$arrival"))

    def test_a_name_beside_an_integer(self):
        self.single(row=shape("$id", "$stream", "$moment", "$key", "$amount", " ", "$arrival"))
        self.single(row=shape("$stream", "$id", "$key", "$moment", " ", "$amount", " ", "$arrival"))

    def test_a_zero_ends_an_integer_but_only_sometimes(self):
        # Of 0 and an integer behind it there is one reading; of 10 and 0 there are two, so 3 characters are enough.
        self.doubtful(3, gone=shape("$arrival", "$id"))
        # With a 0 as mark, 1001 is 10, 0, 1 alone; but 10101 is 1, 0, 101 or 101, 0, 1.
        self.doubtful(5, gone=shape("$id", "0", "$arrival"))

    def test_lines_of_two_kinds(self):
        # Each kind alone can be read one way alone.
        self.doubtful(7, fix=shape("$id", "!", "$moment", "!", "$amount", "!", "$arrival"), gone=shape("$id", "!1!1!", "$arrival"))

    def test_what_may_stand_in_the_place_of_a_field(self):
        # A gone has a mark where a fix or a row has a field: they meet if the mark is what the field may be.
        numbers = ["0", "1", "9", "10", "99", "100", "102"], ["-1", "-9", "-10", "-99"], ["-0", "00", "01", "-", "--1", "1-", "-01", "+1", "1_0"]
        for field in FIELDS["fix"]:
            others = ["$" + word for word in FIELDS["fix"] if word != field]
            for at, texts in enumerate(numbers):
                for text in texts:
                    fix = shape(others[0], "!", "$" + field, "!", others[1], "!", others[2])
                    gone = shape("$id", "!", text, "!1!", "$arrival")
                    if at == 0 or (at == 1 and field != "id"):
                        self.doubtful(len(text) + 6, fix=fix, gone=gone)
                    else:
                        self.single(fix=fix, gone=gone)
        for field, other in (("$stream", "$key"), ("$key", "$stream")):
            row = shape("$id", "!", field, "!", other, "!", "$moment", "!", "$amount", "!", "$arrival")
            for texts, is_doubtful in [(["a", "z", "mm", "abcdefgh"], True), (["A", "a1", "abcdefghi", "a b", "`", "{", "a-", "1"], False)]:
                for text in texts:
                    gone = shape("$id", "!", text[:6], *([text[6:]] if text[6:] else []), "!a!1!", "1!", "$arrival")
                    if is_doubtful:
                        self.doubtful(len(text) + 10, row=row, gone=gone)
                    else:
                        self.single(row=row, gone=gone)

    def test_names_have_at_most_eight_letters(self):
        rest = ("$moment", "=", "$amount", "=", "$arrival")
        row = shape("$stream", "$id", "$key", "=", *rest)
        self.doubtful(16, row=row, fix=shape("zzzzzz", "zz", "$id", "z", "=", *rest))
        self.doubtful(16, row=row, fix=shape("z", "$id", "zzzzzz", "zz", "=", *rest))
        self.single(row=row, fix=shape("zzzzzz", "zzz", "$id", "z", "=", *rest))
        self.single(row=row, fix=shape("z", "$id", "zzzzzz", "zzz", "=", *rest))
        # A mark of 9 letters behind a name: the name cannot reach over it.
        self.single(row=shape("$id", " ", "$stream", "aaaaaa", "aaa", " ", "$key", " ", "$moment", " ", "$amount", " ", "$arrival"))
        # The name ends where a mark of letters begins, which may stand in the name, too: both are read from behind.
        self.single(row=shape("$id", " ", "$stream", "b", " ", "$key", " ", "$moment", " ", "$amount", " ", "$arrival"))

    def test_long_shortest_texts(self):
        self.doubtful(2 + 13 * 6 + 1, gone=shape(*["zzzzzz"] * 13, "$id", "$arrival"))
        # Both kinds have the same marks, and one of them a mark more in the place of a field.
        self.doubtful(6 * 6 + 9, fix=shape(*["zzzzzz"] * 6, "$id", "=", "$moment", "=1=", "$amount", "=", "$arrival"),
                      gone=shape(*["zzzzzz"] * 6, "$id", "=0=1=0", "=", "$arrival"))

    def test_as_all_short_lines_tell(self):
        rng = random.Random(141)
        counts = {True: 0, False: 0}
        for _ in range(150):
            form = form_models.random_form(rng, rng.randrange(5))
            sizes = [sum(len(word) if kind == "mark" else 1 for kind, word in form.shape(one)) for one in FIELDS]
            most = min(sizes) + 5
            few, text = form_models.fewest(form, most), twice(form)
            if text is None or len(text) > most:
                self.assertIsNone(few)
            else:
                self.assertEqual(len(text), few)
            if text is not None:
                self.assertGreater(len(form_models.readings(form, text)), 1)
                self.assertRegex(text, "^[ -~]*$")
            self.assertIs(is_single(form), text is None)
            counts[few is None] += 1
        self.assertGreater(min(counts.values()), 20)

    def test_the_same_text_each_time(self):
        form = Form(BARE["row"], BARE["fix"], BARE["gone"])
        self.assertEqual(twice(form), twice(Form(BARE["row"], BARE["fix"], BARE["gone"])))
        self.assertEqual(len(readings(form, twice(form))), 2)

    def test_values_that_are_no_forms(self):
        for thing in not_made_of(Form):
            fails(self, BadForm, {"value": thing}, is_single, thing)
            fails(self, BadForm, {"value": thing}, twice, thing)


if __name__ == "__main__":
    unittest.main()
