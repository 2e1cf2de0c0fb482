"""Plans: the work of several questions, in which what is alike is done once."""

from asofhall.amounts import Count, Gap, Number, is_amount, is_question, terms_of
from asofhall.answers import AMOUNT, MOMENT, last_row, next_row
from asofhall.errors import BadIndex, BadMoment, BadQuestion, BadWorld
from asofhall.kinds import is_integer, is_row
from asofhall.moments import Either, Last, Later, Next, Now, Shift, children_of, is_term, parts_of
from asofhall.pairs import is_small_pair
from asofhall.verdicts import paper, parting
from asofhall.worlds import World

MOST_QUESTIONS = 8


def steps(questions):
    """All parts of the questions, each of several equal ones once, where it is met first."""
    if not is_row(questions) or not 1 <= len(questions) <= MOST_QUESTIONS:
        raise BadQuestion(questions)
    for thing in questions:
        if not is_question(thing):
            raise BadQuestion(thing)
    found = {}
    for question in questions:
        for part in parts_of_question(question):
            found.setdefault(part.spelling, part)
    return list(found.values())


def parts_of_question(question):
    """The question and all terms that stand in it, inner ones ahead of outer ones."""
    if is_term(question):
        return parts_of(question)
    found = []
    for term in terms_of(question):
        found.extend(parts_of(term))
    return [*found, question]


class Plan:
    """Questions whose steps are merged where they are alike. A plan never changes."""

    def __init__(self, questions):
        merging = Merging()
        for step in steps(questions):
            merging.take(step)
        self._questions = tuple(questions)
        self._kept = merging.taken
        self._merges = merging.merged
        self._stands = merging.stands

    @property
    def kept(self):
        """The list of the kept steps, in order."""
        return list(self._kept)

    @property
    def merges(self):
        """The list of the tuples (step, the kept one into which it is merged), in order."""
        return list(self._merges)

    def run(self, world, now):
        """The list of the answers of the questions."""
        if not isinstance(world, World):
            raise BadWorld(world)
        if not is_integer(now):
            raise BadMoment(now)
        told = {}
        for step in self._kept:
            inner = [told[self._stands[child.spelling]] for child in inner_of(step)]
            told[step.spelling] = worked_out(step, inner, world, now)
        return [told[self._stands[question.spelling]] for question in self._questions]

    def why(self, number):
        """A paper that the steps of the merge with this number are alike; None for amounts."""
        if not is_integer(number) or not 0 <= number < len(self._merges):
            raise BadIndex(number)
        step, kept = self._merges[number]
        if is_amount(step):
            return None
        return paper(step, kept)

    def classes(self):
        """For each kept step, the list of itself and all that were merged into it."""
        found = {step.spelling: [step] for step in self._kept}
        for step, kept in self._merges:
            found[kept.spelling].append(step)
        return list(found.values())


class Merging:
    """Takes steps in order, and keeps those that are like none of those kept so far.

    stands has, for the spelling of each step, that of the kept one for which it
    stands. Terms that are not alike are parted by a world and a moment; all
    kept terms are answered there, so that most other pairs need not be decided,
    since their answers differ there, too.
    """

    def __init__(self):
        self.taken = []
        self.merged = []
        self.stands = {}
        self.terms = []
        self.amounts = {}
        self.partings = []
        self.parted = {}

    def take(self, step):
        """Keeps the step, or merges it into a kept one."""
        kept = self.amount_like(step) if is_amount(step) else self.term_like(step)
        if kept is None:
            self.taken.append(step)
            self.stands[step.spelling] = step.spelling
        else:
            self.merged.append((step, kept))
            self.stands[step.spelling] = kept.spelling

    def amount_like(self, question):
        """The kept amount question into which this one is merged; if there is none, it is kept."""
        stream = "" if isinstance(question, Gap) else question.stream
        # The first word of a spelling tells the class.
        same = (question.spelling[0], stream, *[self.stands[term.spelling] for term in terms_of(question)])
        kept = self.amounts.get(same)
        if kept is None:
            self.amounts[same] = question
        return kept

    def term_like(self, term):
        """The kept term into which this one is merged; if there is none, it is kept."""
        answers = [self.answer(term, number) for number in range(len(self.partings))]
        for kept in self.terms:
            if answers == self.parted[kept.spelling] and is_small_pair(term, kept):
                found = parting(term, kept)
                if found is None:
                    return kept
                self.part(found)
                answers.append(self.answer(term, len(self.partings) - 1))
        self.terms.append(term)
        self.parted[term.spelling] = answers
        return None

    def part(self, found):
        """Answers the kept terms in one more world at one more moment."""
        self.partings.append(found)
        for kept in self.terms:
            self.parted[kept.spelling].append(self.answer(kept, len(self.partings) - 1))

    def answer(self, term, number):
        """The answer of a term in the world and at the moment of the parting with this number."""
        world, now = self.partings[number]
        inner = [self.parted[self.stands[child.spelling]][number] for child in inner_of(term)]
        return worked_out(term, inner, world, now)


def inner_of(step):
    """The terms that stand directly in a step."""
    if is_amount(step):
        return terms_of(step)
    return children_of(step)


def worked_out(step, inner, world, now):
    """The answer of a step in the world at now; inner has those of the terms directly in it."""
    if isinstance(step, Now):
        return now
    if isinstance(step, Either) and inner[0] is None:
        return inner[1]
    if isinstance(step, Either):
        return inner[0]
    if None in inner:
        return None
    if is_amount(step):
        return amount_worked_out(step, inner, world)
    if isinstance(step, Shift):
        return inner[0] + step.amount
    if isinstance(step, Last):
        return told_of(last_row(world, step.stream, inner[0]), MOMENT)
    if isinstance(step, Next):
        return told_of(next_row(world, step.stream, inner[0]), MOMENT)
    if isinstance(step, Later):
        return max(inner)
    return min(inner)


def amount_worked_out(question, inner, world):
    """The answer of an amount question whose terms all have answers."""
    if isinstance(question, Number):
        return told_of(last_row(world, question.stream, inner[0]), AMOUNT)
    first, last = inner
    if isinstance(question, Gap):
        return last - first
    amounts = [row[AMOUNT] for row in world.rows(question.stream) if first < row[MOMENT] <= last]
    if isinstance(question, Count):
        return len(amounts)
    return sum(amounts)


def told_of(row, place):
    """What a row that was looked for tells at this place, or None."""
    if row is None:
        return None
    return row[place]
