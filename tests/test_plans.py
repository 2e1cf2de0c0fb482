"""Shared work: steps [43], merging [44], running [45]."""

import random
import unittest

from asofhall.amounts import Amount, Count, Gap, Number, Total
from asofhall.answers import seen_from, value
from asofhall.errors import BadIndex, BadMoment, BadQuestion, BadWorld, TooMany
from asofhall.moments import Last, Next, Now, Term
from asofhall.plans import Plan, steps
from asofhall.verdicts import alike, is_paper
from asofhall.worlds import World
from tests import models
from tests.helpers import errors_in_order, fails, not_integers, not_made_of, not_questions, odd_values, picture
from tests.pair_tests import A, AFTER, B, NOW

AA = Last("a", A)
# The same as A, with one look more each.
AAA = Last("a", AA)


def row_errors(test, call):
    """Asserts the errors of a call that is given a row of questions."""
    for thing in [*not_made_of((list, tuple)), [], (), [NOW] * 9, (NOW,) * 9, [None] * 9]:
        fails(test, BadQuestion, {"value": thing}, call, thing)
    for thing in not_questions():
        fails(test, BadQuestion, {"value": thing}, call, [thing])
        fails(test, BadQuestion, {"value": thing}, call, (NOW, A, thing, None, Gap(NOW, A)))
    fails(test, BadQuestion, {"value": 1}, call, [NOW] * 7 + [1])


class Steps(unittest.TestCase):
    def test_parts_ahead_of_what_they_stand_in(self):
        self.assertEqual(steps([NOW]), [NOW])
        self.assertEqual(steps((Last("a", NOW - 1),)), [NOW, NOW - 1, Last("a", NOW - 1)])
        self.assertEqual(steps([B | AA]), [NOW, B, A, AA, B | AA])
        self.assertEqual(steps([AFTER.later(B).earlier(NOW + 3)]), [
            NOW, AFTER, B, AFTER.later(B), NOW + 3, AFTER.later(B).earlier(NOW + 3)])

    def test_first_ahead_of_last_and_terms_ahead_of_amounts(self):
        for made in (lambda first, last: Count("c", first, last), lambda first, last: Total("c", first, last), Gap):
            question = made(B, A + 2)
            self.assertEqual(steps([question]), [NOW, B, A, A + 2, question])
        self.assertEqual(steps([Number("c", A)]), [NOW, A, Number("c", A)])

    def test_equal_ones_once_where_they_are_met_first(self):
        same = [Last("a", Now()), A, Number("a", NOW), Number("a", Now()), Gap(A, A), AA]
        self.assertEqual(steps(same), [NOW, A, Number("a", NOW), Gap(A, A), AA])
        self.assertEqual(steps([Gap(AA, B), A, B]), [NOW, A, AA, B, Gap(AA, B)])
        # Those that are alike are not equal.
        self.assertEqual(steps([A.later(NOW), NOW.later(A)]), [NOW, A, A.later(NOW), NOW.later(A)])

    def test_one_and_eight_questions(self):
        eight = [NOW + number for number in range(8)]
        self.assertEqual(steps(eight), eight)
        self.assertEqual(steps(tuple(eight)), eight)

    def test_random_ones(self):
        rng = random.Random(101)
        for _ in range(100):
            questions = [models.random_question(rng, 5) for _ in range(rng.randrange(1, 9))]
            before = picture(questions)
            found = steps(questions)
            self.assertEqual(picture(questions), before)
            met = []
            for question in questions:
                self.meet(question, met)
            self.assertEqual(found, met)
            found.clear()
            self.assertEqual(steps(questions), met)

    def meet(self, question, met):
        for word in ("term", "first", "second", "last"):
            if hasattr(question, word):
                self.meet(getattr(question, word), met)
        if question not in met:
            met.append(question)

    def test_wrong_rows(self):
        row_errors(self, steps)


def inner_terms(question):
    return [getattr(question, word) for word in ("term", "first", "last") if hasattr(question, word)]


def merged(questions):
    """The kept steps and the merges, found pair by pair as the words of [44] go."""
    kept, merges = [], []

    def stands(term):
        return next((one for step, one in merges if step == term), term)

    def is_like(step, one):
        if isinstance(step, Term) and isinstance(one, Term):
            return step.looks + one.looks <= 4 and step.choices + one.choices <= 6 and alike(step, one)
        if type(step) is not type(one) or getattr(step, "stream", None) != getattr(one, "stream", None):
            return False
        pairs = list(zip(inner_terms(step), inner_terms(one), strict=True))
        return isinstance(step, Amount) and all(stands(a) == stands(b) for a, b in pairs)

    for step in steps(questions):
        found = next((one for one in kept if is_like(step, one)), None)
        if found is None:
            kept.append(step)
        else:
            merges.append((step, found))
    return kept, merges


class Merging(unittest.TestCase):
    def merges(self, questions, expected):
        """Asserts that just these are merged, of all the steps."""
        plan = Plan(questions)
        self.assertEqual(plan.merges, expected)
        gone = [step for step, _ in expected]
        self.assertEqual(plan.kept, [step for step in steps(questions) if step not in gone])

    def test_terms_that_are_alike(self):
        self.merges([NOW], [])
        self.merges([A, A, Last("a", NOW)], [])
        self.merges([AA], [(AA, A)])
        self.merges([A, B], [])
        self.merges([A.later(B), B.later(A)], [(B.later(A), A.later(B))])
        self.merges([A.later(NOW)], [])
        self.merges([A.earlier(NOW)], [(A.earlier(NOW), A)])
        self.merges([NOW | B, NOW.later(NOW)], [(NOW | B, NOW), (NOW.later(NOW), NOW)])

    def test_into_the_first_one_that_is_kept(self):
        self.merges([AA, A | A, A.later(A)], [(AA, A), (A | A, A), (A.later(A), A)])
        self.merges([A + 1, AA + 1, (A | A) + 1], [(AA, A), (AA + 1, A + 1), (A | A, A), ((A | A) + 1, A + 1)])
        # Of 2 and of 3 looks: both are alike, but not looked at.
        self.merges([A | B, AA | B], [(AA, A)])

    def test_terms_of_four_looks_and_of_five(self):
        self.merges([AAA], [(AA, A), (AAA, A)])
        four, five = Last("a", AAA), Last("a", Last("a", AAA))
        # 1 and 3 looks are together 4; 1 and 4 are 5, and so are not looked at.
        self.merges([four], [(AA, A), (AAA, A)])
        self.merges([five], [(AA, A), (AAA, A)])
        self.assertEqual(Plan([five]).kept, [NOW, A, four, five])
        # Also Now and a term of 4 looks are looked at; of 5 they are not.
        nothing = NOW
        for term in (four, five):
            late = nothing | term
            self.assertEqual((late, NOW) in Plan([late]).merges, term is four)

    def test_terms_of_six_choices_and_of_seven(self):
        def times(many):
            term = NOW
            for _ in range(many):
                term = term.later(NOW)
            return term

        self.merges([times(6)], [(times(many), NOW) for many in range(1, 7)])
        self.merges([times(7)], [(times(many), NOW) for many in range(1, 7)])
        self.assertEqual(Plan([times(7)]).kept, [NOW, times(7)])
        self.assertEqual(Plan([times(8)]).kept, [NOW, times(7), times(8)])
        # 2 looks are choices, too: with 4 more they are 6 together with Now, with 5 more 7.
        other = [A.earlier(AA | NOW)]
        self.assertEqual(Plan(other).merges, [(AA, A), (A.earlier(AA | NOW), A)])

    def test_amounts_of_the_same_representatives(self):
        for made in (Count, Total):
            one, other = made("c", A, NOW), made("c", AA, NOW | B)
            self.merges([one, other], [(AA, A), (NOW | B, NOW), (other, one)])
        self.merges([Number("c", A), Number("c", AA)], [(AA, A), (Number("c", AA), Number("c", A))])
        self.merges([Gap(A, B), Gap(AA, B)], [(AA, A), (Gap(AA, B), Gap(A, B))])

    def test_amounts_of_another_class_stream_or_order(self):
        for question in (Total("c", A, B), Count("d", A, B), Count("c", B, A), Gap(A, B), Count("c", A, A), Number("c", A)):
            self.merges([Count("c", A, B), question], [])
        self.merges([Number("c", A), Number("d", A)], [])
        self.merges([Gap(A, B), Gap(B, A)], [])
        # They always have the same answer, but the terms are other ones.
        self.merges([Gap(NOW, NOW + 1), Gap(NOW + 1, NOW + 2)], [])

    def test_as_pair_by_pair(self):
        rng = random.Random(102)
        many = 0
        for _ in range(60):
            questions = []
            while len(questions) < rng.randrange(1, 9):
                questions.append(models.random_question(rng, rng.choice((3, 4, 6))))
            before = picture(questions)
            plan = Plan(questions)
            self.assertEqual(picture(questions), before)
            self.assertEqual((plan.kept, plan.merges), merged(questions))
            many += len(plan.merges)
        self.assertGreater(many, 200)

    def test_large_plans_are_made(self):
        rng = random.Random(103)
        questions = []
        while len(questions) < 8:
            try:
                questions.append(models.random_question(rng, 12))
            except TooMany:
                continue
        plan = Plan(questions)
        self.assertEqual(len(plan.kept) + len(plan.merges), len(steps(questions)))

    def test_wrong_rows(self):
        row_errors(self, Plan)


class Running(unittest.TestCase):
    def test_as_value_tells(self):
        rng = random.Random(104)
        for _ in range(150):
            questions = [models.random_question(rng, rng.choice((2, 3, 5))) for _ in range(rng.randrange(1, 9))]
            plan = Plan(questions)
            for _ in range(10):
                world = World(models.random_rows(rng, ["a", "b"], rng.randrange(9)))
                now = rng.randrange(-8, 9)
                before = picture([plan, world])
                self.assertEqual(plan.run(world, now), [value(question, world, now) for question in questions])
                self.assertEqual(picture([plan, world]), before)

    def test_one_answer_for_each_question(self):
        world = World({"a": [(1, 0, 10), (3, 1, 20)], "b": [(2, 2, 5), (2, 3, 6)]})
        questions = [Number("b", NOW), A, A, AA, Count("a", NOW - 9, NOW), Total("a", A - 9, B), Gap(B, A), Next("b", NOW)]
        self.assertEqual(Plan(questions).run(world, 4), [6, 3, 3, 3, 2, 10, 1, None])
        self.assertEqual(Plan(tuple(questions)).run(World({}), 4), [None, None, None, None, 0, None, None, None])
        self.assertEqual(Plan([NOW + 10 ** 40]).run(World({}), -10 ** 30), [10 ** 40 - 10 ** 30])

    def test_the_questions_are_copied(self):
        questions = [A, B]
        plan = Plan(questions)
        questions.append(NOW)
        questions[0] = AFTER
        self.assertEqual(plan.run(World({"a": [(1, 0, 0)]}), 5), [1, None])

    def test_lists_are_new_ones(self):
        plan = Plan([A, AA, B])
        plan.kept.clear()
        plan.merges.clear()
        plan.classes()[0].clear()
        plan.classes().clear()
        plan.run(World({}), 0).clear()
        self.assertEqual(plan.kept, [NOW, A, B])
        self.assertEqual(plan.merges, [(AA, A)])
        self.assertEqual(plan.classes(), [[NOW], [A, AA], [B]])
        self.assertIs(type(plan.merges[0]), tuple)
        self.assertEqual(plan.run(World({}), 0), [None, None, None])

    def test_wrong_worlds_and_moments(self):
        plan = Plan([A, AA])
        errors_in_order(self, plan.run, (World({}), 0), [
            (0, {}, BadWorld, {"value": {}}), (1, True, BadMoment, {"value": True})])
        for thing in not_made_of(World):
            fails(self, BadWorld, {"value": thing}, plan.run, thing, 0)
        for thing in not_integers():
            fails(self, BadMoment, {"value": thing}, plan.run, World({}), thing)


class Why(unittest.TestCase):
    def test_papers_of_merges(self):
        rng = random.Random(105)
        papers = amounts = 0
        for _ in range(40):
            questions = [models.random_question(rng, 4) for _ in range(rng.randrange(1, 8))]
            # The same again, seen from a term that is alike to Now.
            questions.append(seen_from(questions[0], NOW | NOW))
            plan = Plan(questions)
            for number, (step, kept) in enumerate(plan.merges):
                if isinstance(step, Amount):
                    self.assertIsNone(plan.why(number))
                    amounts += 1
                else:
                    self.assertIs(is_paper(step, kept, plan.why(number)), True)
                    papers += 1
        self.assertGreater(papers, 50)
        self.assertGreater(amounts, 3)

    def test_numbers_of_no_merge(self):
        plan = Plan([AA, Number("b", A), Number("b", AA)])
        self.assertTrue(is_paper(AA, A, plan.why(0)))
        self.assertIsNone(plan.why(1))
        for thing in [*not_integers(), 2, -1, -2, 10 ** 30]:
            fails(self, BadIndex, {"value": thing}, plan.why, thing)
        for thing in odd_values():
            fails(self, BadIndex, {"value": thing}, Plan([A]).why, thing)


class Classes(unittest.TestCase):
    def test_each_kept_step_and_what_is_merged_into_it(self):
        self.assertEqual(Plan([A]).classes(), [[NOW], [A]])
        questions = [Number("b", AA), A | A, NOW | B, Number("b", A | A), B]
        self.assertEqual(Plan(questions).classes(), [
            [NOW, NOW | B], [A, AA, A | A], [Number("b", AA), Number("b", A | A)], [B]])

    def test_all_steps_once(self):
        rng = random.Random(106)
        for _ in range(40):
            questions = [models.random_question(rng, 4) for _ in range(rng.randrange(1, 9))]
            plan = Plan(questions)
            self.assertEqual([one[0] for one in plan.classes()], plan.kept)
            for one in plan.classes():
                self.assertEqual(one[1:], [step for step, kept in plan.merges if kept == one[0]])
            self.assertEqual(sum(len(one) for one in plan.classes()), len(steps(questions)))


if __name__ == "__main__":
    unittest.main()
