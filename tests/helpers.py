"""What several tests use: values of every kind, and how errors are looked at."""

from asofhall.amounts import Amount, Count, Gap, Number, Total
from asofhall.books import Book
from asofhall.errors import BadName, HallError, TooMany
from asofhall.forms import Form
from asofhall.halls import Hall
from asofhall.journals import Journal
from asofhall.moments import Last, Next, Now, Term
from asofhall.offices import Office
from asofhall.plans import Plan
from asofhall.worlds import World

FIELDS = {
    "row": ("id", "stream", "key", "moment", "amount", "arrival"),
    "fix": ("id", "moment", "amount", "arrival"),
    "gone": ("id", "arrival"),
}


def nested(inner, depth):
    """A list in a list in a list, depth deep."""
    for _ in range(depth):
        inner = [inner]
    return inner


def shape(*pieces):
    """A shape: "$id" is the field of this word, any other text a mark."""
    return tuple(("field", piece[1:]) if piece[:1] == "$" else ("mark", piece) for piece in pieces)


def plain_form():
    """A form of lines such as "row 0 a k 1 2 3"; no line has two readings."""
    shapes = []
    for word, fields in FIELDS.items():
        shapes.append(shape(word, *[piece for field in fields for piece in (" ", "$" + field)]))
    return Form(*shapes)


def odd_values():
    """Values of every built-in kind and objects of the package, new ones each time."""
    book = Book({"a": 2})
    row = ("row", 0, "a", "k", 0, 0, 0)
    return [
        None, True, False, 0, 1, -1, 7, 10 ** 30, -10 ** 30, 10 ** 5000,
        0.0, 1.0, 1.5, float("nan"), float("inf"), 2j,
        "", "a", "k", "zz", "abcdefgh", "abcdefghi", "A", "aB", "a1", "a b", " a", "a\n", "\u00e9", "\uff41",
        "row", "0", "x" * 100000,
        b"", b"a",
        [], [1], ["a"], [True], [row], [None] * 401, nested(0, 19), nested([{"a": ()}], 17),
        (), (1,), ("a",), ("now",), row, ("gone", 0, 0), (0, 0, 0), ((0, 0, 0),), tuple([row] * 401),
        {}, {"a": 1}, {"a": True}, {"A": 1}, {1: "a"}, {None: 1, "a": 2}, {(1, "a"): [1]}, {"a": [(0, 0, 0)]},
        {"a": {"a": {"a": 1}}},
        book, Journal(book), Journal(book, [row]), World({}), World({"a": [(0, 0, 0)]}),
        Now(), Now() + 1, Last("a", Now()), Next("a", Now()), Now() | Now(), Now().later(Now()), Now().earlier(Now()),
        Number("a", Now()), Count("a", Now(), Now()), Total("a", Now(), Now()), Gap(Now(), Now()),
        plain_form(), Hall(book, plain_form()), Office(book), Plan([Now()]),
        BadName("a"), TooMany(),
    ]


def integers_in(things):
    """Those of the things that are integers."""
    return [thing for thing in things if type(thing) is int]


def names_in(things):
    """Those of the things that are names."""
    return [thing for thing in things if type(thing) is str and thing in ("a", "k", "zz", "abcdefgh", "row")]


def others(things, kept):
    """Those of the things that are not among the kept ones, which are the same objects."""
    return [thing for thing in things if not any(thing is one for one in kept)]


def not_integers():
    things = odd_values()
    return others(things, integers_in(things))


def not_names():
    things = odd_values()
    return others(things, names_in(things))


def not_terms():
    return [thing for thing in odd_values() if not isinstance(thing, Term)]


def not_questions():
    return [thing for thing in odd_values() if not isinstance(thing, (Term, Amount))]


def not_made_of(kind):
    return [thing for thing in odd_values() if not isinstance(thing, kind)]


def picture(thing):
    """What a value is made of, so that a later change of it can be seen."""
    if isinstance(thing, (list, tuple)):
        return (type(thing).__name__, [picture(inner) for inner in thing])
    if isinstance(thing, dict):
        return ("dict", [(picture(key), picture(inner)) for key, inner in thing.items()])
    if isinstance(thing, float):
        return ("float", repr(thing))
    if hasattr(thing, "__dict__"):
        return (type(thing).__name__, picture(vars(thing)))
    return (type(thing).__name__, thing)


def fails(test, error, kept, call, *args):
    """Asserts that call(*args) raises just this error with just these attributes,
    and that no argument (and no object whose method is called) has changed."""
    things = [getattr(call, "__self__", None), *args]
    before = picture(things)
    try:
        told = call(*args)
    except HallError as caught:
        test.assertIs(type(caught), error)
        test.assertEqual(sorted(vars(caught)), sorted(kept))
        for name, thing in kept.items():
            found = getattr(caught, name)
            test.assertIs(type(found), type(thing))
            test.assertTrue(found is thing or found == thing, (name, type(thing)))
    else:
        test.fail(f"{error.__name__} was not raised, but {type(told).__name__} was returned")
    test.assertEqual(picture(things), before)


def errors_in_order(test, call, good, steps):
    """Asserts each error alone, and each one while all those behind it apply, too.

    good are arguments that are right; a step is (place, wrong argument, error, what it keeps).
    """
    for number, (_, _, error, kept) in enumerate(steps):
        for wrong in (steps[number:number + 1], steps[number:]):
            args = list(good)
            for at, thing, _, _ in reversed(wrong):
                args[at] = thing
            fails(test, error, kept, call, *args)
