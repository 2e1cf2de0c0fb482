"""Wordings [21]."""

import random
import unittest

from asofhall.amounts import Count, Gap, Number, Total
from asofhall.errors import BadQuestion, BadText, TooMany
from asofhall.moments import Last, Next, Now, Shift
from asofhall.wordings import read_question, worded
from tests.helpers import fails, not_made_of, not_questions
from tests.models import random_question

NOW = Now()
NAMES = [("name", many) for many in range(1, 9)]
# The rules as the document has them, letter by letter.
RULES = {
    "Q": [["T"], ["number ", "NAME", " at ", "T"], ["count ", "NAME", " from ", "T", " to ", "T"],
          ["total ", "NAME", " from ", "T", " to ", "T"], ["gap from ", "T", " to ", "T"]],
    "T": [["now"], ["(", "T", " + ", "N", ")"], ["(", "T", " - ", "N", ")"], ["last ", "NAME", " at ", "T"],
          ["next ", "NAME", " at ", "T"], ["(", "T", " or ", "T", ")"], ["later(", "T", ", ", "T", ")"],
          ["earlier(", "T", ", ", "T", ")"]],
    "NAME": [["L"] * many for many in range(1, 9)],
    "N": [["0"]] + [["P"] + ["D"] * many for many in range(60)],
}
SETS = {"L": "abcdefghijklmnopqrstuvwxyz", "P": "123456789", "D": "0123456789"}


def ends(parts, text):
    """All lengths that the parts can have at the head of the text; None if the text may end in them."""
    if not parts:
        return {0}
    first, rest = parts[0], parts[1:]
    heads = set()
    if first in RULES:
        for rule in RULES[first]:
            heads |= ends(rule, text)
    elif first in SETS:
        heads = {None} if text == "" else {1} if text[0] in SETS[first] else set()
    elif text.startswith(first):
        heads = {len(first)}
    elif first.startswith(text):
        heads = {None}
    found = {None} & heads
    for many in heads - {None}:
        found |= {None if one is None else one + many for one in ends(rest, text[many:])}
    return found


def place(text):
    """The place of the BadText, or None if the text follows the rules."""
    if len(text) in ends(["Q"], text):
        return None
    many = 0
    while many <= len(text) and {None, many} & ends(["Q"], text[:many]):
        many += 1
    return many - 1


class Worded(unittest.TestCase):
    def test_each_kind(self):
        wordings = [
            (NOW, "now"),
            (NOW + 5, "(now + 5)"),
            (NOW - 12, "(now - 12)"),
            (Last("a", NOW), "last a at now"),
            (Next("abcdefgh", Last("b", NOW) + 1), "next abcdefgh at (last b at now + 1)"),
            (NOW | NOW + 1, "(now or (now + 1))"),
            ((NOW | NOW) + 1, "((now or now) + 1)"),
            (NOW.later(Last("a", NOW)), "later(now, last a at now)"),
            (NOW.earlier(NOW - 1), "earlier(now, (now - 1))"),
            (Number("b", Last("a", NOW)), "number b at last a at now"),
            (Count("a", NOW - 2, NOW), "count a from (now - 2) to now"),
            (Total("a", NOW, NOW + 2), "total a from now to (now + 2)"),
            (Gap(Last("a", NOW), NOW), "gap from last a at now to now"),
        ]
        for question, text in wordings:
            self.assertEqual(worded(question), text)
            self.assertEqual(read_question(text), question)
            self.assertIs(type(read_question(text)), type(question))

    def test_numbers_of_sixty_and_of_sixtyone_digits(self):
        most = 10 ** 60 - 1
        self.assertEqual(worded(NOW + most), "(now + " + "9" * 60 + ")")
        self.assertEqual(worded(NOW - most), "(now - " + "9" * 60 + ")")
        for amount in (most + 1, -most - 1, 10 ** 5000, -10 ** 5000):
            for question in (NOW + amount, Last("a", NOW + amount) | NOW, Gap(NOW, NOW + amount),
                             Number("a", NOW + amount), Count("a", NOW + amount, NOW), Total("a", NOW, NOW + amount)):
                fails(self, TooMany, {}, worded, question)

    def test_not_a_question(self):
        for thing in not_questions():
            fails(self, BadQuestion, {"value": thing}, worded, thing)

    def test_read_again_it_is_the_question(self):
        rng = random.Random(21)
        for _ in range(300):
            question = random_question(rng, 6)
            self.assertEqual(read_question(worded(question)), question)
            self.assertIsNone(place(worded(question)) if len(worded(question)) < 60 else None)


class Read(unittest.TestCase):
    def bad(self, text, at):
        fails(self, BadText, {"place": at}, read_question, text)

    def test_not_a_text(self):
        for thing in not_made_of(str):
            self.bad(thing, 0)

    def test_shifts_inside_each_other_are_added(self):
        cases = [
            ("((now + 5) - 5)", NOW), ("((now + 5) + 5)", NOW + 10), ("((now - 5) + 2)", NOW - 3), ("(now + 0)", NOW),
            ("(now - 0)", NOW), ("last a at (((now + 1) - 1) + 0)", Last("a", NOW)),
            ("gap from ((now + 1) - 2) to ((now - 1) + 1)", Gap(NOW - 1, NOW)),
            ("(((now or now) + 1) + 2)", (NOW | NOW) + 3), ("((now + 3) or now)", (NOW + 3) | NOW),
            ("later((now + 1), ((now + 1) + 1))", (NOW + 1).later(NOW + 2)),
        ]
        for text, question in cases:
            self.assertEqual(read_question(text), question)
        nines = "9" * 60
        self.assertEqual(read_question(f"((now + {nines}) + {nines})"), NOW + 2 * (10 ** 60 - 1))

    def test_they_are_added_before_anything_is_made(self):
        deep = NOW
        for _ in range(11):
            deep = Last("a", deep)
        text = worded(deep)
        self.assertEqual(deep.depth, 12)
        self.assertEqual(read_question(text), deep)
        self.assertEqual(read_question(f"(({text} + 7) - 7)"), deep)
        self.assertEqual(read_question(f"({text} + 0)"), deep)
        fails(self, TooMany, {}, read_question, f"({text} + 1)")
        fails(self, TooMany, {}, read_question, f"(({text} + 7) - 6)")
        many = "(" * 5000 + "now" + " + 1)" * 5000
        self.assertEqual(read_question(many), NOW + 5000)

    def test_texts_that_are_too_large(self):
        looks = "last a at " * 12 + "now"
        fails(self, TooMany, {}, read_question, looks)
        fails(self, TooMany, {}, read_question, f"number b at {looks}")
        fails(self, TooMany, {}, read_question, f"gap from now to {looks}")
        fails(self, TooMany, {}, read_question, "last a at " * 20000 + "now")
        fails(self, TooMany, {}, read_question, "(now or " * 20000 + "now" + ")" * 20000)
        fails(self, TooMany, {}, read_question, "later(" * 20000 + "now" + ", now)" * 20000)

    def test_a_bad_place_goes_ahead_of_too_many(self):
        looks = "last a at " * 30
        self.bad(looks + "noww", len(looks) + 3)
        self.bad(looks, len(looks))
        self.bad("(" * 100000, 100000)
        self.bad("(" * 100000 + ")", 100000)
        self.bad("last a at " * 30000 + "nox", 300002)
        self.bad("(" * 5000 + "now" + " + 1)" * 4999, 5000 + 3 + 5 * 4999)

    def test_stream_names_that_are_words_of_the_rules(self):
        for name in ("now", "last", "next", "later", "earlier", "at", "or", "number", "count", "total", "gap", "from", "to"):
            for text, question in [
                    (f"last {name} at now", Last(name, NOW)), (f"next {name} at now", Next(name, NOW)),
                    (f"number {name} at now", Number(name, NOW)),
                    (f"count {name} from now to now", Count(name, NOW, NOW)),
                    (f"total {name} from now to now", Total(name, NOW, NOW))]:
                self.assertEqual(read_question(text), question)

    def test_each_place_at_which_a_text_may_stop(self):
        for text, at in [
                ("", 0), ("n", 1), ("no", 2), ("now ", 3), ("nowx", 3), ("noW", 2), ("Now", 0), (" now", 0),
                ("ne", 2), ("nex ", 3), ("next", 4), ("nexta", 4), ("nu", 2), ("numb", 4), ("numbers", 6),
                ("la", 2), ("las", 3), ("lat", 3), ("lax", 2), ("last", 4), ("last ", 5), ("last  a", 5), ("last A", 5),
                ("last a", 6), ("last a ", 7), ("last a a", 8), ("last a at", 9), ("last a at ", 10),
                ("last a at  now", 10), ("last abcdefgh at now)", 20), ("last abcdefghi at now", 13),
                ("last a1 at now", 6), ("last \u00e9 at now", 5), ("last a at number", 11), ("last a at count", 10),
                ("number a from now", 9), ("later (now", 5), ("later(now,now)", 10), ("later(now , now)", 9),
                ("later(now, now", 14), ("later(now, now))", 15), ("earlier(now or now)", 11), ("earlyer(", 4),
                ("(now)", 4), ("(now", 4), ("(now ", 5), ("(now +", 6), ("(now + ", 7), ("(now + 1", 8), ("(now +1)", 6),
                ("(now+1)", 4), ("( now + 1)", 1), ("(now + -0)", 7), ("(now + +1)", 7), ("(now + 00)", 8),
                ("(now + 01)", 8), ("(now - 0 )", 8), ("(now + 1 )", 8), ("(now + now)", 7), ("(now * 1)", 5),
                ("(now or 1)", 8), ("(now orr", 7), ("(now o", 6), ("(now + 1) + 1", 9), ("(now + 1 + 1)", 8),
                ("(now + \u0663)", 7), ("(now + 1\u0663)", 8), ("(now + " + "1" * 60 + ")", None),
                ("(now + " + "1" * 61 + ")", 67), ("(now - 1" + "0" * 60 + ")", 67), ("(now + 1_0)", 8),
                ("gap", 3), ("gap ", 4), ("gap from", 8), ("gap from now", 12), ("gap from now to", 15), ("gap a from", 4),
                ("gap from now at now", 13), ("gap from gap", 9), ("(gap from now to now)", 1), ("count a at now", 8),
                ("count a from now to now ", 23), ("total a from now, now", 16), ("total from now to now", 11),
                ("total from from now to now", None), ("now\n", 3), ("last a\tat now", 6)]:
            if at is None:
                read_question(text)
            else:
                self.bad(text, at)
            self.assertEqual(place(text), at, text)

    def test_a_beginning_is_only_a_beginning(self):
        for text in ("later((last a at now - 10), earlier(now, (next b at now or now)))", "number now at (now + 0)",
                     "count abcdefgh from last a at now to (now - 205)", "gap from now to next next at now"):
            for many in range(len(text)):
                self.bad(text[:many], many)

    def test_against_the_rules_letter_by_letter(self):
        rng = random.Random(22)
        for _ in range(400):
            text = worded(random_question(rng, 4))
            if len(text) > 60:
                continue
            at = rng.randrange(len(text) + 1)
            put = rng.choice(["", " ", "n", "a", "(", ")", "0", "1", "-", ",", "now", "last ", " or ", "x", "N"])
            text = text[:at] + put + text[at + rng.randrange(3):]
            expected = place(text)
            if expected is None:
                read_question(text)
            else:
                self.bad(text, expected)

    def test_a_shift_of_a_text_is_a_shift(self):
        question = read_question("(last a at now + 3)")
        self.assertIsInstance(question, Shift)
        self.assertEqual((question.amount, question.term), (3, Last("a", NOW)))


if __name__ == "__main__":
    unittest.main()
