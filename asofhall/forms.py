"""Forms: how entries are written as lines, and whether each line can be read one way alone."""

from asofhall.entries import FIELDS
from asofhall.errors import BadForm
from asofhall.kinds import is_row
from asofhall.nets import net_of

MOST_PIECES = 15
LONGEST_MARK = 6


class Form:
    """The shapes of the lines of each kind of entry. A form never changes."""

    def __init__(self, row, fix, gone):
        shapes = {"row": row, "fix": fix, "gone": gone}
        for word, shape in shapes.items():
            if not is_shape(shape, FIELDS[word]):
                raise BadForm(word)
        self._shapes = {word: tuple(shape) for word, shape in shapes.items()}

    def __eq__(self, other):
        return isinstance(other, Form) and self._shapes == other._shapes

    def shape(self, word):
        """The tuple of the pieces of the shape of this word."""
        if not isinstance(word, str) or word not in self._shapes:
            raise BadForm(word)
        return self._shapes[word]


def is_shape(thing, fields):
    """Tells whether the thing is a shape that has each of the fields once."""
    if not is_row(thing) or not 1 <= len(thing) <= MOST_PIECES:
        return False
    found = []
    for piece in thing:
        if not isinstance(piece, tuple) or len(piece) != 2 or not isinstance(piece[1], str):
            return False
        if piece[0] == "field":
            found.append(piece[1])
        elif piece[0] != "mark" or not is_mark(piece[1]):
            return False
    return sorted(found) == sorted(fields)


def is_mark(text):
    """Tells whether the text may be that of a mark."""
    return 1 <= len(text) <= LONGEST_MARK and all([" " <= letter <= "~" for letter in text])


def check_form(form):
    """Raises BadForm if this is no form."""
    if not isinstance(form, Form):
        raise BadForm(form)


def is_single(form):
    """Tells whether no text has two readings."""
    return twice(form) is None


def twice(form):
    """A text with two readings that has the fewest characters of all such texts, or None."""
    check_form(form)
    net = net_of([form.shape(word) for word in FIELDS])
    return text_of_two(net)


# Two readings of a text are two ways through the net at once. A head is a tuple
# (one, other, apart): the places that they have come to, the lower one ahead,
# and whether they were apart somewhere so far; where they are apart is behind
# each place, where they come together again.


def text_of_two(net):
    """A shortest text for which two ways lead through the net, or None."""
    lasts = {place: True for place in net.lasts}
    ahead_of = {}
    heads = [(None, head) for head in next_heads(net, net.firsts, net.firsts, False)]
    # All heads that so many characters lead to are gone through ahead of those
    # that more lead to; so the first text that is found is a shortest one.
    while len(heads) > 0:
        behind = []
        for ahead, head in heads:
            if head in ahead_of:
                continue
            ahead_of[head] = ahead
            one, other, apart = head
            if apart and one in lasts and other in lasts:
                return text_to(net, ahead_of, head)
            found = next_heads(net, net.behind[one], net.behind[other], apart)
            behind.extend([(head, after) for after in found])
        heads = behind
    return None


def next_heads(net, ones, others, apart):
    """The heads at places of which a character may stand at both."""
    found = []
    for one in ones:
        for other in others:
            if common(net, one, other) is not None:
                found.append((min(one, other), max(one, other), apart or one != other))
    return found


def common(net, one, other):
    """The first character that may stand at both places, or None."""
    for letter in net.letters[one]:
        if letter in net.letters[other]:
            return letter
    return None


def text_to(net, ahead_of, head):
    """The text that has led to the head."""
    letters = []
    while head is not None:
        one, other, _ = head
        letters.append(common(net, one, other))
        head = ahead_of[head]
    return "".join(letters[::-1])
