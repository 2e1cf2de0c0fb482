"""Plain models of lines: readings piece by piece, and all short lines of a form."""

import re

from asofhall.forms import Form
from tests.helpers import FIELDS

NAME = re.compile("[a-z]{1,8}")
WHOLE = re.compile("0|[1-9][0-9]*")
INTEGER = re.compile("0|-?[1-9][0-9]*")
MARKS = ("1", "a", "-", "0", " ", "a1", "-1", "1-", "aaaaaa", "10", "~", "a a")


def pattern(word):
    return NAME if word in ("stream", "key") else WHOLE if word == "id" else INTEGER


def ways(pieces, text):
    """All lists of the texts of the fields with which the pieces make the text."""
    if not pieces:
        return [{}] if text == "" else []
    (kind, word), found = pieces[0], []
    for end in range(1, len(text) + 1):
        part = text[:end]
        if kind == "mark" and part == word:
            found += ways(pieces[1:], text[end:])
        elif kind == "field" and pattern(word).fullmatch(part):
            found += [{**told, word: part} for told in ways(pieces[1:], text[end:])]
    return found


def readings(form, text):
    """All readings of a text."""
    found = []
    for word, fields in FIELDS.items():
        here = []
        for told in ways(form.shape(word), text):
            here.append((word, *[told[one] if one in ("stream", "key") else int(told[one]) for one in fields]))
        found += sorted(here)
    return found


def parts(word, most):
    """All texts of a field up to this length, over the characters a, 0, 1 and -."""
    found, texts = [], [""]
    for _ in range(most):
        texts = [text + letter for text in texts for letter in "a01-"]
        texts = [text for text in texts if text == "-" and word != "id" or pattern(word).fullmatch(text)]
        found += [text for text in texts if text != "-"]
    return found


def lines(pieces, most):
    """All lines of a shape up to this length over these characters, each as often as it is written."""
    if not pieces:
        return [""]
    kind, word = pieces[0]
    rest = sum(len(text) if one == "mark" else 1 for one, text in pieces[1:])
    found = []
    for part in [word] if kind == "mark" else parts(word, most - rest):
        found += [part + line for line in lines(pieces[1:], most - len(part)) if len(part + line) <= most]
    return found


def fewest(form, most):
    """The fewest characters of a text with two readings, if that is at most so many, or None.

    The marks of the form have no letters but a and no digits but 0 and 1: any
    other letter or digit of a text may be put as a or 1 then.
    """
    seen, best = set(), None
    for word in FIELDS:
        for line in lines(form.shape(word), most):
            if line in seen and (best is None or len(line) < best):
                best = len(line)
            seen.add(line)
    return best


def random_form(rng, most_marks):
    """A form with some marks, in which many texts have several readings."""
    shapes = []
    for fields in FIELDS.values():
        pieces = [("field", word) for word in fields]
        if rng.randrange(2):
            rng.shuffle(pieces)
        if rng.randrange(3):
            mark = rng.choice(("  ", "~", " a", "~1"))
            pieces = [piece for field in pieces for piece in (field, ("mark", mark))][:-1]
        for _ in range(rng.randrange(most_marks + 1)):
            pieces.insert(rng.randrange(len(pieces) + 1), ("mark", rng.choice(MARKS)))
        shapes.append(pieces)
    return Form(*shapes)
