"""All errors that the program raises, in the order and with the fields of the document."""


class LightError(ValueError):
    """The base of the errors that tell of a wrong or an impossible value."""


class InvalidNet(LightError):
    """Fibres or rows of a reach that make no net."""

    def __init__(self, word, index):
        self.word = word
        self.index = index


class InvalidRoute(LightError):
    """A value that is no route of the net."""

    def __init__(self, value):
        self.value = value


class TooFar(LightError):
    """A route that is longer than the reach of the net."""

    def __init__(self, length):
        self.length = length


class InvalidBand(LightError):
    """A value that is no band, or none that can be had."""

    def __init__(self, value):
        self.value = value


class InvalidLayout(LightError):
    """Rates and spots that make no layout."""

    def __init__(self, word, item):
        self.word = word
        self.item = item


class InvalidWish(LightError):
    """A value that is no wish for the layout."""

    def __init__(self, word):
        self.word = word


class NotAllowed(LightError):
    """A move or a step of a tick that is not allowed."""

    def __init__(self, index, word):
        self.index = index
        self.word = word


class Turned(LightError):
    """A pair of an order that another layout has the other way round."""

    def __init__(self, lower, upper):
        self.lower = lower
        self.upper = upper


class Unlike(LightError):
    """Two things that differ where they must not."""

    def __init__(self, item):
        self.item = item


class Circular(LightError):
    """An order with a ring."""

    def __init__(self, ring):
        self.ring = ring


class Barred(LightError):
    """What cannot be had, with a certificate."""

    def __init__(self, certificate):
        self.certificate = certificate


class ParseError(LightError):
    """A text that is wrong at a word of a line."""

    def __init__(self, line, word):
        self.line = line
        self.word = word


class UnknownCommand(LightError):
    """A row that a desk does not know."""

    def __init__(self, command):
        self.command = command


class NoItem(KeyError):
    """A value that is no item, or no signal, of what is asked."""

    def __init__(self, item):
        self.item = item


class NoStation(KeyError):
    """A value that is no station of the net."""

    def __init__(self, name):
        self.name = name


class NoDuct(KeyError):
    """A value that is no duct of the net."""

    def __init__(self, name):
        self.name = name


class NoName(KeyError):
    """A name that means nothing here."""

    def __init__(self, name):
        self.name = name


class NoFibre(IndexError):
    """A value that is no number of a fibre of the net."""

    def __init__(self, index):
        self.index = index


class TooMany(OverflowError):
    """More than a limit lets through."""

    def __init__(self, limit):
        self.limit = limit


class TooWide(OverflowError):
    """A band that is wider than a limit."""

    def __init__(self, limit):
        self.limit = limit


class TooNarrow(OverflowError):
    """A band that is narrower than what is needed."""

    def __init__(self, needed):
        self.needed = needed


class NothingToUndo(LookupError):
    """A number of calls that cannot be taken back."""

    def __init__(self, count):
        self.count = count
