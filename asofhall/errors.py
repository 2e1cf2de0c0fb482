"""The errors of the package: each stands directly under HallError."""


class HallError(ValueError):
    """The base of all errors of the package."""


# Each error hands a fixed text to its base: the value that it keeps may be
# anything, also an integer that is too long to be written.


class BadName(HallError):
    """The value is not a name, or not a name that is known here."""

    def __init__(self, value):
        super().__init__("bad name")
        self.value = value


class BadBook(HallError):
    """The value is not a book, not what a book is made of, or not the same book."""

    def __init__(self, value):
        super().__init__("bad book")
        self.value = value


class BadEntry(HallError):
    """The entry with this index is not an entry or not good there."""

    def __init__(self, at):
        super().__init__("bad entry")
        self.at = at


class BadMoment(HallError):
    """The value is not a moment, or not one that may stand here."""

    def __init__(self, value):
        super().__init__("bad moment")
        self.value = value


class BadRows(HallError):
    """What is given is not the rows of a world: an id that occurs twice, or -1."""

    def __init__(self, at):
        super().__init__("bad rows")
        self.at = at


class BadTerm(HallError):
    """The value is not a moment term."""

    def __init__(self, value):
        super().__init__("bad term")
        self.value = value


class BadQuestion(HallError):
    """The value is not a question that may stand here."""

    def __init__(self, value):
        super().__init__("bad question")
        self.value = value


class BadWorld(HallError):
    """The value is not a world."""

    def __init__(self, value):
        super().__init__("bad world")
        self.value = value


class BadText(HallError):
    """The text stops being the beginning of a question at this place."""

    def __init__(self, place):
        super().__init__("bad text")
        self.place = place


class BadFact(HallError):
    """The thing with this index is not a fact."""

    def __init__(self, at):
        super().__init__("bad fact")
        self.at = at


class BadWait(HallError):
    """The value is not a wait."""

    def __init__(self, value):
        super().__init__("bad wait")
        self.value = value


class BadJournal(HallError):
    """The value is not a journal that may stand here."""

    def __init__(self, value):
        super().__init__("bad journal")
        self.value = value


class BadId(HallError):
    """The value is not an id."""

    def __init__(self, value):
        super().__init__("bad id")
        self.value = value


class BadIndex(HallError):
    """The value is not an index that may stand here."""

    def __init__(self, value):
        super().__init__("bad index")
        self.value = value


class BadAsk(HallError):
    """The ask with this name is not good."""

    def __init__(self, name):
        super().__init__("bad ask")
        self.name = name


class BadTicks(HallError):
    """The tick with this index is not good, or -1 for all of them."""

    def __init__(self, at):
        super().__init__("bad ticks")
        self.at = at


class BadForm(HallError):
    """The value is not a form, or names no good shape."""

    def __init__(self, value):
        super().__init__("bad form")
        self.value = value


class BadLine(HallError):
    """The line with this number, or with this number of readings, is not good."""

    def __init__(self, number):
        super().__init__("bad line")
        self.number = number


class Busy(HallError):
    """The writer has an open draft."""

    def __init__(self, writer):
        super().__init__("busy")
        self.writer = writer


class Idle(HallError):
    """There is no open draft of this writer."""

    def __init__(self, writer):
        super().__init__("idle")
        self.writer = writer


class Stale(HallError):
    """The row with this id has got an entry behind the begin of the draft."""

    def __init__(self, number):
        super().__init__("stale")
        self.id = number


class NotHeard(HallError):
    """Nothing can be answered before all is heard."""


class NothingDone(HallError):
    """There is nothing that could be taken back."""


class NoPaper(HallError):
    """There is no paper, since the answer is no."""


class TooMany(HallError):
    """Something would be larger than it may be."""
