"""All errors of the package, by their families."""


class UnmovedError(ValueError):
    """The base class of all errors."""


class PaperError(UnmovedError):
    """What a checker does not accept."""


class HouseError(UnmovedError):
    """What cannot be done with a house, a table, waits or a history."""


class LiveError(UnmovedError):
    """What an open house does not let."""


class TextError(UnmovedError):
    """What a text does not tell well."""


class InvalidPaper(PaperError):
    """A checker's first complaint: its word, and where."""

    def __init__(self, word, at):
        self.word = word
        self.at = at


class NotUsable(HouseError):
    """A parameter, called word, that is not as stated."""

    def __init__(self, word, at):
        self.word = word
        self.at = at


class Unheard(HouseError):
    """A door sees another one that it does not hear."""

    def __init__(self, door, other):
        self.door = door
        self.other = other


class Barred(HouseError):
    """Waits had to be kept, but this ring bars them."""

    def __init__(self, ring):
        self.ring = ring


class Misshown(HouseError):
    """The first fault of a history."""

    def __init__(self, deed, book, word):
        self.deed = deed
        self.book = book
        self.word = word


class InvalidEvent(LiveError):
    """An event that is not let, and why."""

    def __init__(self, event, reason):
        self.event = event
        self.reason = reason


class NothingToUndo(LiveError):
    """Fewer events than these steps were done."""

    def __init__(self, steps):
        self.steps = steps


class InvalidText(TextError):
    """A field that cannot stand where it does, in this line."""

    def __init__(self, line, field):
        self.line = line
        self.field = field


class InvalidRow(TextError):
    """A line that reads well and tells nothing that there is."""

    def __init__(self, row):
        self.row = row
