"""Papers [26] to [31]: held against papers by hand, and against a plain model of them."""

import random
import unittest

from asofhall.leads import is_lead_paper, lead, lead_paper
from asofhall.moments import Last, Next
from asofhall.verdicts import alike, cover_paper, covers, is_cover_paper, is_paper, paper
from tests.helpers import picture
from tests.pair_tests import A, AFTER, B, NOW, random_pair
from tests.paper_models import alike_place, build, cover_place, judge, lead_place, spoiled

FINE = ("fine",)
# A paper that Last("a", Now()) is alike to itself.
NONE_FIRST = (FINE, ("beside", 1, 0, (("ring", (0, 1)),)))
NONE_THEN = ("beside", 1, 1, (("ring", (0, 1)),))
SAME = ("cases", (("ring", (2,)), ("ring", (2,))))
ABOVE = ("beside", 2, 0, (("ring", (3, 2)), ("ring", (3, 1))))
BELOW = ("beside", 1, 1, (("ring", (3, 2)), ("ring", (3, 0))))


def last_paper(none_first=NONE_FIRST, none_then=NONE_THEN, same=SAME, above=ABOVE, below=BELOW):
    return ("cases", (("cases", none_first), ("cases", (none_then, same, ("cases", (above, below))))))


def ring(*indexes):
    return ("ring", indexes)


class ByHand(unittest.TestCase):
    def judged(self, thing, flag, one=A, other=A):
        self.assertIs(is_paper(one, other, thing), flag, thing)
        self.assertEqual(judge(alike_place(one, other), thing), flag, thing)

    def test_a_whole_paper(self):
        self.judged(last_paper(), True)

    def test_papers_that_are_right_in_another_way(self):
        for changed in [
                {"none_first": (FINE, ("beside", 1, 0, (ring(1, 0),)))}, {"none_then": ("beside", 1, 1, (ring(1, 0, 1, 0),))},
                {"above": ("beside", 1, 1, (("beside", 2, 0, (ring(2, 4), ring(4, 1))), ring(3, 0)))},
                {"above": ("beside", 2, 1, (("beside", 2, 0, (ring(2, 4), ring(1, 4))), ring(3, 1)))},
                {"below": ("beside", 1, 1, (ring(2, 3), ring(0, 3)))}]:
            self.judged(last_paper(**changed), True)

    def test_papers_that_are_wrong_in_one_place(self):
        for changed in [
                {"none_first": (FINE,)}, {"none_first": (*NONE_FIRST, FINE)}, {"none_first": (FINE, FINE)},
                {"none_first": NONE_FIRST[::-1]}, {"none_first": list(NONE_FIRST)}, {"none_first": (ring(0), NONE_FIRST[1])},
                {"none_first": (FINE, ring(0, 1))}, {"none_first": (("beside", 1, 0, ()), NONE_FIRST[1])},
                {"none_first": (FINE, ("beside", 1, 0, (ring(0, 1), ring(0, 1))))}, {"none_first": (FINE, ("beside", 1, 0, ()))},
                {"none_first": (FINE, ("beside", 0, 0, (ring(0, 1),)))}, {"none_first": (FINE, ("beside", 2, 0, (ring(0, 1),)))},
                {"none_first": (FINE, ("beside", 1, 1, (ring(0, 1),)))}, {"none_first": (FINE, ("beside", 1, -2, (ring(0, 1),)))},
                {"none_first": (FINE, ("beside", 1, 2, (ring(0, 1),)))}, {"none_first": (FINE, ("beside", True, 0, (ring(0, 1),)))},
                {"none_first": (FINE, ("beside", 1, False, (ring(0, 1),)))}, {"none_first": (FINE, ("beside", 1, 0, [ring(0, 1)]))},
                {"none_first": (FINE, ("beside", 1, 0, (FINE,)))}, {"none_first": (FINE, ("cases", ()))},
                {"none_then": FINE}, {"none_then": ring(0)}, {"none_then": ("beside", 1, 1, (ring(0),))},
                {"none_then": ("beside", 1, -1, (ring(0, 1),))},
                {"none_then": ("beside", 1, 1, (ring(0, 2),))}, {"none_then": ("beside", 1, 1, (("beside", 1, 1, (ring(0, 1),)),))},
                {"same": ("cases", (ring(2),))}, {"same": ("cases", (ring(2),) * 3)}, {"same": ring(0)}, {"same": FINE},
                {"same": ("cases", (ring(2), FINE))}, {"same": ("cases", (ring(2), ring(0)))},
                {"above": ("beside", 2, 0, (ring(3, 1), ring(3, 2)))}, {"above": ("beside", 2, 0, (ring(3, 2),))},
                {"above": ("beside", 1, 0, (ring(3, 2), ring(3, 1)))}, {"above": BELOW}, {"below": ABOVE},
                {"above": ("beside", 2, 0, (("beside", 2, 0, (ring(3, 2), ring(3, 1))), ring(3, 1)))},
                {"above": ("beside", 1, 1, (("beside", 2, 0, (ring(2, 4), ring(4, 1))), ring(3, 2)))},
                {"above": ("ring", [3, 2])}, {"above": ("ring", (3, 2), ())}, {"above": ("ring",)}]:
            self.judged(last_paper(**changed), False)
        for thing in [("cases", last_paper()[1][:1]), ("cases", last_paper()[1][::-1]), ("case", last_paper()[1]), FINE,
                      ("cases", (*last_paper()[1], FINE)), last_paper()[1], list(last_paper()), ring(), ring(0)]:
            self.judged(thing, False)

    def test_a_row_and_a_stretch_of_the_same_stream(self):
        # Row 1 is of a, row 2 of b; stretch 2 says that a has no row up to now.
        for row, around, flag in [(1, ring(0, 2), True), (2, ring(2, 1, 0), False), (1, ring(2, 1, 0), False), (3, ring(0, 2), False)]:
            thing = ("cases", (FINE, ("cases", (FINE, ("cases", (("beside", row, 2, (around,)), FINE, FINE))))))
            self.assertIs(is_cover_paper(A, Last("b", A), thing), flag)

    def test_shifts_in_the_facts(self):
        one, other = Last("a", NOW - 2) + 3, Last("a", (NOW - 1) - 1) + 3
        self.judged(last_paper(same=SAME), True, one, other)
        # With an answer that is one greater all that tells both apart is gone.
        self.judged(last_paper(same=SAME), False, one, other + 1)

    def test_a_next_has_its_ends_the_other_way(self):
        thing = ("cases", (
            ("cases", (FINE, ("beside", 1, 0, (ring(0, 1),)))),
            ("cases", (("beside", 1, 1, (ring(0, 1),)), ("cases", (ring(2), ring(2))), ("cases", (
                ("beside", 1, 1, (ring(3, 0), ring(3, 2))), ("beside", 2, 0, (ring(3, 1), ring(3, 2)))))))))
        self.judged(thing, True, AFTER, AFTER)
        self.judged(last_paper(), False, AFTER, AFTER)
        self.judged(thing, False, A, A)


class Rings(unittest.TestCase):
    """A ring in each place where one may stand: here the second case has one at once."""

    def test_in_the_place_of_a_choice(self):
        # later(now, now - 1) is now: the second case says that now is below itself.
        one = Last("a", NOW.later(NOW - 1))
        self.assertIs(covers(one, A), True)
        cover = cover_paper(one, one)
        self.assertIs(is_cover_paper(one, one, cover), True)
        inner = cover[1][0]
        self.assertIs(is_cover_paper(one, one, ("cases", (inner, ring(0)))), True)
        self.assertIs(is_cover_paper(one, one, ("cases", (ring(0), ring(0)))), False)
        self.assertIs(is_cover_paper(one, one, ring(0)), False)
        self.assertIs(is_cover_paper(one, one, ("cases", (inner, ring(1)))), False)

    def test_in_the_place_of_fine(self):
        late = NOW.later(NOW - 1)
        for thing, flag in [((FINE, FINE), True), ((FINE, ring(0)), True), ((ring(0), FINE), False), ((FINE, ring(1)), False),
                            ((FINE, ("beside", 0, 0, ())), False), ((FINE, ("cases", (FINE, FINE))), False), ((FINE,), False)]:
            self.assertIs(is_cover_paper(NOW, late, ("cases", thing)), flag, thing)
        self.assertIs(is_cover_paper(NOW, NOW, FINE), True)
        self.assertIs(is_cover_paper(NOW, NOW, ring(0)), False)

    def test_in_the_place_of_the_two_cases_at_the_end(self):
        late = NOW.later(NOW - 1)
        ends = ("cases", (ring(1), ring(1)))
        for thing, flag in [((ends, ring(0)), True), ((ends, ("cases", (ring(0), ring(0)))), True), ((ring(0), ends), False),
                            ((ends, ("cases", (ring(0), ring(1)))), True), ((ends, FINE), False), ((ends, ring(1)), False)]:
            self.assertIs(is_paper(late, NOW, ("cases", thing)), flag, thing)

    def test_of_the_number_at_the_end_of_a_lead(self):
        for n, flag in [(0, True), (5, True), (-1, False)]:
            self.assertIs(is_lead_paper(NOW, NOW, n, ring(0)), flag)
        self.assertIs(is_lead_paper(NOW + 3, NOW, 3, ring(0)), True)
        self.assertIs(is_lead_paper(NOW + 3, NOW, 2, ring(0)), False)
        self.assertIs(is_lead_paper(NOW, NOW + 3, -3, ring(0)), True)
        self.assertIs(is_lead_paper(A, NOW, 0, ("cases", (FINE, ring(0, 1)))), True)
        self.assertIs(is_lead_paper(A, NOW, 0, ("cases", (FINE, ring(1, 0)))), True)
        self.assertIs(is_lead_paper(A, NOW, -1, ("cases", (FINE, ring(0, 1)))), False)
        self.assertIs(is_lead_paper(A, NOW, 0, ("cases", (ring(0), ring(0, 1)))), False)
        self.assertIs(is_lead_paper(NOW, NOW, 0, FINE), False)

    def test_a_fine_case_of_two_answers_that_are_nothing(self):
        self.assertIs(is_lead_paper(NOW, A, 0, ("cases", (FINE, ("beside", 1, 0, (ring(0), ring(0)))))), False)


class AgainstTheModel(unittest.TestCase):
    def compared(self, rng, place, flag, made, judged):
        """Asserts that a paper exists exactly if the answer is yes, and that both judge alike."""
        built = build(place, rng)
        self.assertEqual(built is not None, flag)
        if not flag:
            return
        for thing in (built, made()):
            before = picture(thing)
            self.assertIs(judged(thing), True)
            self.assertTrue(judge(place, thing))
            for _ in range(8):
                wrong = spoiled(thing, rng)
                self.assertIs(judged(wrong), judge(place, wrong), wrong)
            self.assertEqual(picture(thing), before)

    def test_random_pairs(self):
        rng = random.Random(26)
        for _ in range(250):
            one, other = random_pair(rng, 4)
            self.compared(rng, alike_place(one, other), alike(one, other),
                          lambda: paper(one, other), lambda thing: is_paper(one, other, thing))
            self.compared(rng, cover_place(one, other), covers(one, other),
                          lambda: cover_paper(one, other), lambda thing: is_cover_paper(one, other, thing))
            word, most = lead(one, other)
            n = rng.randrange(-1, 2) + (most or 0)
            self.compared(rng, lead_place(one, other, n), word == "never" or (word == "most" and most <= n),
                          lambda: lead_paper(one, other, n), lambda thing: is_lead_paper(one, other, n, thing))

    def test_a_paper_of_another_pair_is_none(self):
        rng = random.Random(27)
        pairs = [(A, A), (AFTER, AFTER), (B, B), (A | B, A | B), (A + 1, A + 1), (Last("a", A), A), (Next("a", AFTER), AFTER)]
        for one, other in pairs:
            thing = build(alike_place(one, other), rng)
            for first, second in pairs:
                self.assertIs(is_paper(first, second, thing), judge(alike_place(first, second), thing))


if __name__ == "__main__":
    unittest.main()
