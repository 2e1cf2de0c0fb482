"""Points 14, 17 and 18 to 20: answers, support, and questions seen from elsewhere."""

import random
import unittest

from asofhall.amounts import Count, Gap, Number, Total
from asofhall.answers import seen_from, support, value
from asofhall.errors import BadMoment, BadQuestion, BadTerm, BadWorld, TooMany
from asofhall.moments import Last, Next, Now, Term
from asofhall.worlds import World
from tests.helpers import fails, not_integers, not_made_of, not_questions, not_terms, picture
from tests.models import answer, random_question, random_rows, random_term

NOW = Now()
ROWS = {
    "a": [(2, 5, 20), (2, 3, 30), (4, 9, 40), (7, 1, 50)],
    "b": [(3, 4, -1), (6, 2, -2), (6, 8, -3), (6, 7, -4)],
}
WORLD = World(ROWS)
NONE = Last("c", NOW)


class Answers(unittest.TestCase):
    def answers(self, question, now, told, ids):
        self.assertEqual(value(question, WORLD, now), told)
        self.assertEqual(support(question, WORLD, now), ids)

    def test_now(self):
        for now in (0, -5, 10 ** 5000):
            self.answers(NOW, now, now, [])

    def test_last(self):
        for now, told, ids in ((1, None, []), (2, 2, [5]), (3, 2, [5]), (4, 4, [9]), (6, 4, [9]), (99, 7, [1])):
            self.answers(Last("a", NOW), now, told, ids)

    def test_next(self):
        for now, told, ids in ((-99, 2, [3]), (2, 2, [3]), (3, 4, [9]), (5, 7, [1]), (7, 7, [1]), (8, None, [])):
            self.answers(Next("a", NOW), now, told, ids)

    def test_several_rows_at_one_moment(self):
        self.answers(Last("b", NOW), 6, 6, [8])
        self.answers(Next("b", NOW), 6, 6, [2])
        self.answers(Number("b", NOW), 6, -3, [8])
        self.answers(Number("b", Next("b", NOW)), 6, -3, [2, 8])

    def test_shifts(self):
        self.answers(Last("a", NOW) + 3, 5, 7, [9])
        self.answers(Last("a", NOW - 2) - 2 ** 70, 5, 2 - 2 ** 70, [5])
        self.answers(NONE + 3, 5, None, [])

    def test_either(self):
        self.answers(Last("a", NOW) | Last("b", NOW), 5, 4, [9])
        self.answers(NONE | Last("b", NOW), 5, 3, [4])
        self.answers(NONE | NONE, 5, None, [])
        self.answers(Last("b", NOW) | NONE, 5, 3, [4])

    def test_either_keeps_what_the_first_looked_at(self):
        self.answers(Last("c", Last("a", NOW)) | Last("b", NOW), 5, 3, [4, 9])

    def test_later_and_earlier(self):
        for one, other in ((Last("a", NOW), Last("b", NOW)), (Last("b", NOW), Last("a", NOW))):
            self.answers(one.later(other), 5, 4, [4, 9])
            self.answers(one.earlier(other), 5, 3, [4, 9])
            self.answers(one.later(NONE), 5, None, support(one, WORLD, 5))
            self.answers(one.earlier(NONE), 5, None, support(one, WORLD, 5))
            self.answers(NONE.later(one), 5, None, [])
            self.answers(NONE.earlier(one), 5, None, [])
        self.answers(Last("a", NOW).later(Last("a", NOW)), 5, 4, [9])

    def test_looks_through_looks(self):
        self.answers(Last("b", Last("a", NOW)), 7, 6, [1, 8])
        self.answers(Last("b", Last("a", NOW)), 3, None, [5])
        self.answers(Next("a", Next("b", NOW)), 0, 4, [4, 9])
        self.answers(Last("a", NONE), 5, None, [])

    def test_numbers(self):
        self.answers(Number("a", NOW), 1, None, [])
        self.answers(Number("a", NOW), 2, 20, [5])
        self.answers(Number("b", Last("a", NOW)), 5, -1, [4, 9])
        self.answers(Number("b", Last("a", NOW)), 2, None, [5])
        self.answers(Number("b", NONE), 5, None, [])
        self.answers(Number("c", Last("a", NOW)), 5, None, [9])

    def test_counts_and_totals(self):
        for first, last, ids in (
                (2, 7, [1, 9]), (1, 7, [1, 3, 5, 9]), (1, 2, [3, 5]), (2, 6, [9]), (4, 6, []), (-99, 99, [1, 3, 5, 9])):
            amounts = [row[2] for row in ROWS["a"] if row[1] in ids]
            self.answers(Count("a", NOW + first, NOW + last), 0, len(ids), ids)
            self.answers(Total("a", NOW + first, NOW + last), 0, sum(amounts), ids)

    def test_counts_and_totals_where_last_is_not_behind_first(self):
        for first, last in ((2, 2), (7, 7), (7, 2), (4, 3)):
            self.answers(Count("a", NOW + first, NOW + last), 0, 0, [])
            self.answers(Total("a", NOW + first, NOW + last), 0, 0, [])
        self.answers(Count("a", Last("a", NOW), Last("b", NOW)), 5, 0, [4, 9])

    def test_counts_and_totals_of_looks(self):
        self.answers(Count("a", Last("b", NOW - 3), Last("b", NOW)), 8, 1, [4, 8, 9])
        self.answers(Total("a", Last("b", NOW - 3), Last("b", NOW)), 8, 40, [4, 8, 9])
        self.answers(Total("b", Last("a", NOW - 4), NOW), 6, -10, [2, 4, 5, 7, 8])

    def test_gaps(self):
        self.answers(Gap(Last("b", NOW), Last("a", NOW)), 5, 1, [4, 9])
        self.answers(Gap(Last("a", NOW), Last("b", NOW)), 5, -1, [4, 9])
        self.answers(Gap(NOW, NOW + 10 ** 5000), 5, 10 ** 5000, [])

    def test_none_of_two_moments(self):
        some = Last("b", NOW)
        for make in (lambda a, b: Count("a", a, b), lambda a, b: Total("a", a, b), Gap):
            self.answers(make(NONE, NONE), 5, None, [])
            self.answers(make(NONE, some), 5, None, [])
            self.answers(make(some, NONE), 5, None, [4])

    def test_a_world_without_rows(self):
        world = World({})
        for question in (Last("a", NOW), Next("a", NOW), Number("a", NOW)):
            self.assertIsNone(value(question, world, 0))
            self.assertEqual(support(question, world, 0), [])
        for question in (Count("a", NOW - 9, NOW), Total("a", NOW - 9, NOW)):
            self.assertEqual(value(question, world, 0), 0)
            self.assertEqual(support(question, world, 0), [])

    def test_random_answers_as_the_model_tells(self):
        rng = random.Random(18)
        somes = 0
        for _ in range(1500):
            rows = random_rows(rng, "ab", rng.randrange(10))
            question, now = random_question(rng, 5), rng.randrange(-7, 8)
            told = value(question, World(rows), now)
            self.assertEqual(told, answer(question, rows, now))
            somes += told is not None
        self.assertGreater(somes, 500)
        self.assertLess(somes, 1400)

    def test_wrong_values_in_their_order(self):
        for call in (value, support):
            for thing in not_questions():
                fails(self, BadQuestion, {"value": thing}, call, thing, WORLD, 0)
                fails(self, BadQuestion, {"value": thing}, call, thing, None, None)
            for thing in not_made_of(World):
                fails(self, BadWorld, {"value": thing}, call, NOW, thing, 0)
                fails(self, BadWorld, {"value": thing}, call, Number("a", NOW), thing, None)
            for thing in not_integers():
                fails(self, BadMoment, {"value": thing}, call, NOW, WORLD, thing)
                fails(self, BadMoment, {"value": thing}, call, NONE, World({}), thing)

    def test_arguments_stay_as_they_are(self):
        question = Count("a", Last("b", NOW - 3) | NOW, NOW.later(Next("a", NOW)))
        before = picture([question, WORLD])
        value(question, WORLD, 3)
        support(question, WORLD, 3).append(77)
        self.assertEqual(picture([question, WORLD]), before)
        self.assertNotIn(77, support(question, WORLD, 3))


class Support(unittest.TestCase):
    def taken_out(self, rows, ids):
        return World({stream: [row for row in rows[stream] if row[1] not in ids] for stream in rows})

    def test_rows_outside_of_it_do_not_matter(self):
        rng = random.Random(19)
        for _ in range(600):
            rows = random_rows(rng, "ab", 9)
            question, now = random_question(rng, 5), rng.randrange(-7, 8)
            told, ids = value(question, World(rows), now), support(question, World(rows), now)
            self.assertEqual(ids, sorted(set(ids)))
            spare = [row[1] for stream in rows for row in rows[stream] if row[1] not in ids]
            for left_out in [[one] for one in spare] + [spare, spare[::2]]:
                world = self.taken_out(rows, left_out)
                self.assertEqual(value(question, world, now), told)
                self.assertEqual(support(question, world, now), ids)

    def test_each_row_of_a_look_alone_matters(self):
        for row in ROWS["a"]:
            world = self.taken_out(ROWS, [row[1]])
            self.assertEqual(value(Number("a", NOW), world, 7) == 50, row[1] != 1)


class SeenFrom(unittest.TestCase):
    def test_each_now_is_replaced(self):
        term = Last("c", NOW)
        for question, told in (
                (NOW, term),
                (NOW + 3, term + 3),
                (Last("a", NOW), Last("a", term)),
                (Next("a", NOW - 1), Next("a", term - 1)),
                (NOW | Last("a", NOW), term | Last("a", term)),
                (NOW.later(NOW + 1), term.later(term + 1)),
                (NOW.earlier(NOW + 1), term.earlier(term + 1)),
                (Number("a", NOW), Number("a", term)),
                (Count("a", NOW - 2, NOW), Count("a", term - 2, term)),
                (Total("a", NOW, NOW + 2), Total("a", term, term + 2)),
                (Gap(NOW, Last("a", NOW)), Gap(term, Last("a", term)))):
            before = picture([question, term])
            self.assertEqual(seen_from(question, term), told)
            self.assertEqual(picture([question, term]), before)

    def test_shifts_are_joined(self):
        self.assertEqual(seen_from(NOW + 3, NOW + 4), NOW + 7)
        self.assertEqual(seen_from(NOW + 3, NOW - 3), NOW)
        self.assertEqual(seen_from(Last("a", NOW + 3) + 1, Last("b", NOW) - 3), Last("a", Last("b", NOW)) + 1)
        self.assertEqual(seen_from(Gap(NOW - 2 ** 70, NOW), NOW + 2 ** 70), Gap(NOW, NOW + 2 ** 70))

    def test_its_answer_is_that_at_the_moment_of_the_term(self):
        rng = random.Random(20)
        somes = 0
        for _ in range(1200):
            rows = random_rows(rng, "ab", rng.randrange(10))
            question, term, now = random_question(rng, 4), random_term(rng, 3), rng.randrange(-7, 8)
            try:
                moved = seen_from(question, term)
            except TooMany:
                continue
            at = answer(term, rows, now)
            if at is not None:
                self.assertEqual(value(moved, World(rows), now), answer(question, rows, at))
                somes += 1
        self.assertGreater(somes, 500)

    def test_wrong_values_in_their_order(self):
        for thing in not_questions():
            fails(self, BadQuestion, {"value": thing}, seen_from, thing, NOW)
            fails(self, BadQuestion, {"value": thing}, seen_from, thing, None)
        for thing in not_terms():
            fails(self, BadTerm, {"value": thing}, seen_from, NOW, thing)
            fails(self, BadTerm, {"value": thing}, seen_from, Gap(NOW, NOW), thing)

    def test_too_large_questions(self):
        deep = NOW
        for _ in range(11):
            deep = Last("a", deep)
        self.assertEqual(seen_from(NOW, deep), deep)
        self.assertEqual(seen_from(deep, NOW), deep)
        for question in (Last("a", NOW), NOW + 1, NOW | NOW, Gap(NOW, Last("a", NOW)), Count("a", NOW + 1, NOW)):
            fails(self, TooMany, {}, seen_from, question, deep)
        self.assertEqual(seen_from(Number("a", NOW), deep), Number("a", deep))
        many = ((NOW | NOW) | (NOW | NOW)) | ((NOW | NOW) | (NOW | NOW))
        self.assertEqual(many.parts, 15)
        fails(self, TooMany, {}, seen_from, many, NOW | NOW | NOW)
        fails(self, BadTerm, {"value": None}, seen_from, many, None)
        self.assertEqual(seen_from(many, NOW + 1).parts, 23)

    def test_a_shift_that_cancels_is_not_too_large(self):
        deep = NOW
        for _ in range(10):
            deep = Last("a", deep)
        self.assertEqual(seen_from(NOW - 1, deep + 1), deep)
        self.assertEqual(seen_from(NOW + 1, deep + 1), deep + 2)
        self.assertIsInstance(seen_from(NOW + 1, deep), Term)
