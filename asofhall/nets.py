"""Nets: all that may stand in the lines of a form, character by character.

A net has places; at each of them one of some characters stands. Each reading
of a text is a way through the net, from a first place to a last one, with one
place for each character of the text; and other readings are other ways.
"""

from asofhall.kinds import DIGITS, LETTERS, LONGEST_NAME, NOT_ZERO


class Net:
    """The places by their numbers: what may stand there, and which places may be next."""

    def __init__(self):
        self.letters = []
        self.behind = []
        self.firsts = []
        self.lasts = []


def net_of(shapes):
    """The net of the lines of these shapes."""
    net = Net()
    for shape in shapes:
        ends = None
        for piece in shape:
            begins, ends_here = put_piece(net, piece)
            if ends is None:
                net.firsts.extend(begins)
            else:
                for end in ends:
                    net.behind[end].extend(begins)
            ends = ends_here
        net.lasts.extend(ends)
    return net


def put_piece(net, piece):
    """Puts the places of a piece into the net; returns those at which it may begin and end."""
    letters, behind, begins, ends = places_of(piece)
    start = len(net.letters)
    net.letters.extend(letters)
    net.behind.extend([[start + place for place in places] for places in behind])
    return [start + place for place in begins], [start + place for place in ends]


def places_of(piece):
    """The places of a piece alone: what may stand there, the next ones, the first and the last ones."""
    kind, word = piece
    if kind == "mark":
        many = len(word)
        return list(word), in_a_row(many), [0], [many - 1]
    if word == "stream" or word == "key":
        return [LETTERS] * LONGEST_NAME, in_a_row(LONGEST_NAME), [0], list(range(LONGEST_NAME))
    # A zero alone; or digits of which the first one is no zero, a sign ahead.
    begins = [0, 1] if word == "id" else [0, 1, 3]
    return ["0", NOT_ZERO, DIGITS, "-"], [[], [2], [2], [1]], begins, [0, 1, 2]


def in_a_row(many):
    """The next places of so many places that stand one behind the other."""
    return [[place + 1] for place in range(many - 1)] + [[]]
