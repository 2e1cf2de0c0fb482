"""Facts, rings and solutions [22]."""

import itertools
import random
import unittest

from asofhall.errors import BadFact
from asofhall.facts import is_ring, ring, solution
from tests.helpers import fails, nested, not_integers, odd_values, picture


def rounds(facts, thing):
    """Tells by the words of the document whether the thing, a tuple of indexes, is a ring."""
    pairs = zip(thing, [*thing[1:], thing[0]])
    return all(facts[one][1] == facts[two][0] for one, two in pairs) and sum(facts[one][2] for one in thing) < 0


def kept(values, facts):
    return all(values[a] <= values[b] + c for a, b, c in facts)


def random_facts(rng, count, many, size):
    return [(rng.randrange(count), rng.randrange(count), rng.randrange(-size, size * 3)) for _ in range(many)]


class Decided(unittest.TestCase):
    def decided(self, count, facts):
        """Asserts that there is just one of a ring and a solution, and that it is one."""
        before = list(facts)
        around, values = ring(count, facts), solution(count, facts)
        self.assertEqual(facts, before)
        self.assertNotEqual(around is None, values is None)
        if around is None:
            self.assertIsInstance(values, list)
            self.assertEqual([type(one) for one in values], [int] * count)
            self.assertTrue(kept(values, facts))
        else:
            self.assertIsInstance(around, tuple)
            self.assertTrue(around and all(type(one) is int and 0 <= one < len(facts) for one in around))
            self.assertTrue(rounds(facts, around))
            self.assertIs(is_ring(facts, around), True)
        return around is None

    def test_edges(self):
        many = [(at % 14, (at + 1) % 14, 0) for at in range(79)]
        for count, facts, keepable in [
                (1, [], True), (14, [], True), (1, [(0, 0, 0)], True), (1, [(0, 0, -1)], False),
                (1, [(0, 0, 5), (0, 0, -1)], False), (2, [(0, 1, 0), (1, 0, 0)], True), (2, [(0, 1, 0), (1, 0, -1)], False),
                (2, [(0, 1, -5), (1, 0, 5)], True), (2, [(0, 1, -5), (1, 0, 4)], False), (2, [(0, 1, -5), (0, 1, -7)], True),
                (3, [(0, 1, -1), (1, 2, -1), (2, 0, 2)], True), (3, [(0, 1, -1), (1, 2, -1), (2, 0, 1)], False),
                (14, [*many, (3, 3, 0)], True), (14, [*many, (3, 4, -1)], False),
                (14, [*many[:13], (13, 0, -1)], False), (14, [*many[:13], (13, 0, 0)], True),
                (2, [(0, 1, 10 ** 200), (1, 0, -10 ** 200)], True), (2, [(0, 1, 10 ** 200), (1, 0, -10 ** 200 - 1)], False)]:
            self.assertIs(self.decided(count, facts), keepable, (count, facts))

    def test_random_facts(self):
        rng = random.Random(23)
        told = {True: 0, False: 0}
        for _ in range(400):
            count = rng.randrange(1, 15)
            told[self.decided(count, random_facts(rng, count, rng.randrange(0, 81), rng.choice([1, 4, 10 ** 20])))] += 1
        for _ in range(400):
            count = rng.randrange(1, 6)
            told[self.decided(count, random_facts(rng, count, rng.randrange(0, 9), 4))] += 1
        self.assertGreater(min(told.values()), 100)

    def test_all_values_are_tried(self):
        rng = random.Random(24)
        for _ in range(150):
            facts = random_facts(rng, 3, rng.randrange(1, 7), 2)
            found = any(kept(values, facts) for values in itertools.product(range(-8, 9), (0,), range(-8, 9)))
            self.assertEqual(self.decided(3, facts), found)

    def test_the_same_call_gives_the_same(self):
        facts = random_facts(random.Random(25), 9, 40, 3)
        self.assertEqual([ring(9, facts), solution(9, facts)], [ring(9, list(facts)), solution(9, list(facts))])
        first = solution(9, [])
        first.append(1)
        self.assertEqual(solution(9, []), [0] * 9)


class Rings(unittest.TestCase):
    FACTS = [(0, 1, -2), (1, 0, 1), (1, 1, -1), (1, 2, 0), (2, 1, 0), (0, 0, 0), (2, 2, -5)]

    def test_by_hand(self):
        for thing, flag in [
                ((), False), ((0,), False), ((0, 1), True), ((1, 0), True), ((0, 1, 0, 1), True), ((1,), False),
                ((2,), True), ((2, 2), True), ((0, 2, 1), True), ((3, 4), False), ((4, 3), False), ((3, 2), False),
                ((3, 4, 2), True), ((5,), False), ((6,), True), ((0, 1, 5), True), ((5, 0, 1), True), ((5, 1, 0), False),
                ((3, 6, 4), True), ((0, 3, 4, 1), True), ((0, 3, 6, 4, 1), True), ((0, 0), False), ((7,), False),
                ((-1,), False), ((2, -5), False), ((0, 1, 7), False), ((10 ** 30,), False), ((True,), False),
                ((False, 1), False), ((2, True), False), ([2], False), (2, False), (((2,),), False), (("2",), False),
                ((2.0,), False), ((None,), False)]:
            self.assertIs(is_ring(self.FACTS, thing), flag, thing)

    def test_a_sum_of_exactly_zero_is_none(self):
        self.assertIs(is_ring([(0, 1, 7), (1, 0, -7)], (0, 1)), False)
        self.assertIs(is_ring([(0, 1, 7), (1, 0, -8)], (0, 1)), True)
        self.assertIs(is_ring([(0, 1, 7), (1, 0, -8)], (0, 1, 0)), False)

    def test_an_index_may_occur_several_times(self):
        facts = [(0, 1, 3), (1, 0, -3), (0, 0, -1)]
        self.assertIs(is_ring(facts, (0, 1, 0, 1, 2)), True)
        self.assertIs(is_ring(facts, (0, 1, 0, 1)), False)

    def test_against_the_words(self):
        rng = random.Random(26)
        for _ in range(3000):
            facts = random_facts(rng, 3, 5, 3)
            thing = tuple(rng.randrange(5) for _ in range(rng.randrange(1, 5)))
            self.assertEqual(is_ring(facts, thing), rounds(facts, thing))

    def test_things_of_any_kind_and_size(self):
        deep = ()
        for _ in range(100000):
            deep = (deep,)
        for thing in [*odd_values(), deep, nested((), 100000), (deep, 0), (0, deep), ("x",) * 100000]:
            self.assertIs(is_ring(self.FACTS, thing), False)
        self.assertIs(is_ring(self.FACTS, (2,) * 200000), True)
        self.assertIs(is_ring(self.FACTS, (0, 1) * 100000 + (0,)), False)
        self.assertIs(is_ring([], (0,)), False)

    def test_no_argument_changes(self):
        facts = list(self.FACTS)
        is_ring(facts, (0, 1))
        self.assertEqual(picture(facts), picture(self.FACTS))


class Wrong(unittest.TestCase):
    def test_things_that_are_no_facts(self):
        things = [[0, 1, 2], (0, 1), (0, 1, 2, 3), (-1, 0, 0), (0, -1, 0), *odd_values()]
        things += [(one, 0, 0) for one in not_integers()] + [(0, one, 0) for one in not_integers()]
        things += [(0, 0, one) for one in not_integers()]
        for thing in things:
            if thing == (0, 0, 0):
                continue
            for facts, at in [([thing], 0), ([(0, 0, 0), thing, None], 1), ([(0, 1, 0), (1, 0, 5), (0, 0, -1), thing], 3)]:
                fails(self, BadFact, {"at": at}, ring, 2, facts)
                fails(self, BadFact, {"at": at}, solution, 2, facts)
                fails(self, BadFact, {"at": at}, is_ring, facts, (0,))

    def test_variables_beyond_the_count(self):
        for count in (1, 2, 14):
            for fact in [(count, 0, 0), (0, count, 0), (10 ** 30, 0, 0), (0, 10 ** 30, 0)]:
                fails(self, BadFact, {"at": 1}, ring, count, [(0, 0, 0), fact, fact])
                fails(self, BadFact, {"at": 0}, solution, count, [fact])
            ring(count, [(count - 1, 0, 0), (0, count - 1, 0)])

    def test_the_first_bad_one_counts_ahead_of_a_ring(self):
        fails(self, BadFact, {"at": 2}, ring, 2, [(0, 0, -1), (1, 1, 1), (2, 0, 0), (0, 0)])
        fails(self, BadFact, {"at": 2}, solution, 2, [(0, 0, -1), (1, 1, 1), (0, 0), (2, 0, 0)])


if __name__ == "__main__":
    unittest.main()
