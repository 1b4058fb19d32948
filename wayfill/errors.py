"""All errors that the program raises."""


class WayfillError(ValueError):
    """The base class of all errors that the program raises."""


class BoundError(WayfillError):
    """Something is beyond a bound."""


class TooLong(BoundError):
    """A word, a side or a way is too long."""


class TooMany(BoundError):
    """There are more things than a bound allows."""


class BadWeights(WayfillError):
    """The weights are not one number from 1 to 99 for each letter."""


class BadEnds(WayfillError):
    """The begins or ends of ways do not match."""


class BadFare(WayfillError):
    """A fare has a wrong length."""


class BadTranslation(WayfillError):
    """A list is not a translation."""


class BadTable(WayfillError):
    """A table is not a class table."""


class BadSum(WayfillError):
    """Two sums are over different rules."""


class BadOverlap(WayfillError):
    """A tuple is not an overlap."""


class NothingToUndo(WayfillError):
    """A book has no row that could be taken out."""


class BadLetters(WayfillError):
    """A text is not the alphabet that is wanted."""

    def __init__(self, text):
        self.text = text


class BadWord(WayfillError):
    """A text has a character that is not a letter."""

    def __init__(self, text):
        self.text = text


class BadName(WayfillError):
    """A text is not a name."""

    def __init__(self, name):
        self.name = name


class BadNumber(WayfillError):
    """A number is out of its range."""

    def __init__(self, number):
        self.number = number


class BadRow(WayfillError):
    """A row of numbers has a wrong length."""

    def __init__(self, at):
        self.at = at


class BadRule(WayfillError):
    """The sides cannot be those of a rule."""

    def __init__(self, name):
        self.name = name


class Rising(WayfillError):
    """The left side of a rule is not greater than its right side."""

    def __init__(self, name):
        self.name = name


class Unknown(WayfillError):
    """Nothing has this name."""

    def __init__(self, name):
        self.name = name


class Repeated(WayfillError):
    """An earlier thing has this name."""

    def __init__(self, name):
        self.name = name


class BadText(WayfillError):
    """A line or a piece of a text is wrong."""

    def __init__(self, at):
        self.at = at


class BadStep(WayfillError):
    """A step does not stand in its word."""

    def __init__(self, at):
        self.at = at


class BadSquare(WayfillError):
    """A tuple is not a square."""

    def __init__(self, name):
        self.name = name


class BadMove(WayfillError):
    """A move does not fit."""

    def __init__(self, at):
        self.at = at


class BadLog(WayfillError):
    """An entry of a log is wrong."""

    def __init__(self, at):
        self.at = at


class BadChange(WayfillError):
    """A change cannot be done."""

    def __init__(self, at):
        self.at = at


class Unjoined(WayfillError):
    """Two last words differ."""

    def __init__(self, one, other):
        self.one = one
        self.other = other


class Open(WayfillError):
    """An overlap is open."""

    def __init__(self, top, one, other):
        self.top = top
        self.one = one
        self.other = other


class Lacking(WayfillError):
    """No square answers an overlap."""

    def __init__(self, top, one, other):
        self.top = top
        self.one = one
        self.other = other


class Stopped(WayfillError):
    """A script failed at a statement."""

    def __init__(self, path):
        self.path = path


class BadEntry(WayfillError):
    """A book refuses a row."""

    def __init__(self, at, name):
        self.at = at
        self.name = name
