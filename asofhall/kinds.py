"""The kinds of values of which every part of the package speaks."""

LETTERS = "abcdefghijklmnopqrstuvwxyz"
LONGEST_NAME = 8

DIGITS = "0123456789"
NOT_ZERO = "123456789"


def is_integer(thing):
    """Tells whether the thing is an integer: True and False are none."""
    return isinstance(thing, int) and not isinstance(thing, bool)


def is_natural(thing):
    """Tells whether the thing is an integer from 0 on."""
    return is_integer(thing) and thing >= 0


def is_name(thing):
    """Tells whether the thing is a name: 1 to 8 letters from a to z."""
    if not isinstance(thing, str) or not 1 <= len(thing) <= LONGEST_NAME:
        return False
    return all([letter in LETTERS for letter in thing])


def is_row(thing):
    """Tells whether the thing is a row of things: a list or a tuple."""
    return isinstance(thing, (list, tuple))


def are_integers(things):
    """Tells whether all of the things are integers."""
    return all([is_integer(thing) for thing in things])
