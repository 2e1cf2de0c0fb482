"""Plain, slow models of journals and answers, and how random ones are made.

They are written after the words of the document, and share no code with the
program, so that both can be held against each other.
"""

from asofhall.amounts import Count, Gap, Number, Total
from asofhall.moments import Earlier, Either, Last, Later, Next, Now, Shift


def good(lates, ahead, entry):
    """Tells whether the entry, which is one, is good behind those ahead."""
    if ahead and entry[-1] < ahead[-1][-1]:
        return False
    same = [one for one in ahead if one[1] == entry[1]]
    rows = [one for one in same if one[0] == "row"]
    if entry[0] == "row":
        return not rows and entry[4] <= entry[6] <= entry[4] + lates[entry[2]]
    if not rows or [one for one in same if one[0] == "gone"]:
        return False
    late = lates[rows[0][2]]
    old = same[-1][-3]
    if entry[-1] > old + late:
        return False
    return entry[0] == "gone" or entry[2] <= entry[-1] <= entry[2] + late


def standing(entries):
    """The list of (stream, key, moment, id, amount) of all rows that stand."""
    found = []
    for row in entries:
        same = [one for one in entries if one[1] == row[1]]
        if row[0] == "row" and not [one for one in same if one[0] == "gone"]:
            found.append((row[2], row[3], same[-1][-3], row[1], same[-1][-2]))
    return sorted(found)


def random_entry(rng, lates, ahead, now):
    """An entry, good or not, at about the moment now."""
    ids = [one[1] for one in ahead] or [0]
    moment = now - rng.randrange(-1, 5)
    arrival = now + rng.choice((0, 0, 0, 0, 1, -1))
    word = rng.choice(("row", "row", "fix", "gone"))
    if word == "row":
        number = rng.choice((len(ahead) + 50, len(ahead) + 50, len(ahead) + 50, rng.choice(ids)))
        return ("row", number, rng.choice(sorted(lates)), rng.choice(("k", "l")), moment, rng.randrange(-9, 10), arrival)
    number = rng.choice((rng.choice(ids), rng.choice(ids), 7))
    if word == "fix":
        return ("fix", number, moment, rng.randrange(-9, 10), arrival)
    return ("gone", number, arrival)


def random_entries(rng, lates, tries, ahead=(), now=0):
    """Good entries behind those ahead, without these, about as many as tries."""
    found = list(ahead)
    for _ in range(tries):
        now += rng.choice((0, 0, 1, 2))
        entry = random_entry(rng, lates, found, now)
        if good(lates, found, entry):
            found.append(entry)
    return found[len(ahead):]


def random_rows(rng, streams, many):
    """Rows of a world, several of them at one moment."""
    rows = {stream: [] for stream in streams}
    ids = rng.sample(range(30), many)
    for number in ids:
        rows[rng.choice(streams)].append((rng.randrange(-6, 7), number, rng.randrange(-9, 10)))
    return rows


def random_term(rng, depth):
    """A term of at most this depth."""
    if depth <= 1 or rng.randrange(6) == 0:
        return Now()
    word = rng.randrange(7)
    inner = random_term(rng, depth - 1)
    if word <= 1:
        return Last(rng.choice("ab"), inner)
    if word == 2:
        return Next(rng.choice("ab"), inner)
    if word == 3:
        return inner + rng.randrange(-3, 4)
    other = random_term(rng, depth - 2)
    return (inner | other, inner.later(other), inner.earlier(other))[word - 4]


def random_question(rng, depth):
    """A question whose terms have at most this depth."""
    word = rng.randrange(6)
    first = random_term(rng, depth)
    last = random_term(rng, depth)
    if word == 0:
        return Number(rng.choice("ab"), first)
    if word == 1:
        return Count(rng.choice("ab"), first, last)
    if word == 2:
        return Total(rng.choice("ab"), first, last)
    if word == 3:
        return Gap(first, last)
    return first


def found_row(look, rows, moment):
    """The row that a look finds, or None."""
    if isinstance(look, Next):
        return min([row for row in rows if row[0] >= moment], default=None)
    return max([row for row in rows if row[0] <= moment], default=None)


def answer(question, rows, now):
    """The answer of a question, with rows a dict from streams to lists."""
    def of(inner):
        return answer(inner, rows, now)

    if isinstance(question, Now):
        return now
    if isinstance(question, (Last, Next, Number)):
        row = None if of(question.term) is None else found_row(question, rows.get(question.stream, []), of(question.term))
        return None if row is None else row[2 if isinstance(question, Number) else 0]
    if isinstance(question, Shift):
        return None if of(question.term) is None else of(question.term) + question.amount
    if isinstance(question, (Count, Total, Gap)):
        a, b = of(question.first), of(question.last)
    else:
        a, b = of(question.first), of(question.second)
    if isinstance(question, Either):
        return b if a is None else a
    if a is None or b is None:
        return None
    if isinstance(question, Later):
        return max(a, b)
    if isinstance(question, Earlier):
        return min(a, b)
    if isinstance(question, Gap):
        return b - a
    amounts = [row[2] for row in rows.get(question.stream, []) if a < row[0] and row[0] <= b]
    return len(amounts) if isinstance(question, Count) else sum(amounts)


def answer_behind(question, entries, key, now):
    """The answer of a question in the world of the key behind the entries."""
    rows = {}
    for stream, place, moment, number, amount in standing(entries):
        if place == key:
            rows.setdefault(stream, []).append((moment, number, amount))
    return answer(question, rows, now)


def random_going_on(rng, lates, entries, h, tries):
    """Good entries with arrivals above h behind those ahead."""
    found = []
    for entry in random_entries(rng, lates, tries, entries, h + 1):
        if entry[-1] > h and good(lates, [*entries, *found], entry):
            found.append(entry)
    return found


def is_going_on(lates, entries, h, more):
    """Tells whether more, which are entries, are good behind those ahead, with arrivals above h."""
    ahead = list(entries)
    for entry in more:
        if entry[-1] <= h or not good(lates, ahead, entry):
            return False
        ahead.append(entry)
    return True


def random_chain(rng, streams):
    """A chain over some of the streams, each once."""
    term = Now()
    for stream in rng.sample(streams, rng.randrange(len(streams) + 1)):
        term = Last(stream, term + rng.choice((0, 0, 0, rng.randrange(-4, 5))))
    return term + rng.choice((0, 0, rng.randrange(-3, 4)))


def random_keepable(rng, streams):
    """A keepable question."""
    word = rng.randrange(6)
    if word < 2:
        return random_chain(rng, streams)
    if word < 4:
        term = random_chain(rng, streams)
        free = [stream for stream in streams if stream not in term.streams()]
        return Number(rng.choice(free), term) if free else term
    first, last = Now() + rng.randrange(-5, 4), Now() + rng.randrange(-5, 4)
    return (Count, Total)[word - 4](rng.choice(streams), first, last)
