"""The errors of the package, in the order in which they go ahead of one another (point 4)."""


class OutshinerError(ValueError):
    """What every error of the package is."""


class BadName(OutshinerError):
    """A string that must be a name and is none."""

    def __init__(self, name):
        self.name = name


class BadNumber(OutshinerError):
    """A value that must be a number and is none."""

    def __init__(self, number):
        self.number = number


class BadSpan(OutshinerError):
    """A span whose low is greater than its high."""

    def __init__(self, low, high):
        self.low = low
        self.high = high


class Doubled(OutshinerError):
    """A name (or a light) that must not occur twice."""

    def __init__(self, name):
        self.name = name


class SelfBond(OutshinerError):
    """A bond whose two ends are one lamp."""

    def __init__(self, bond):
        self.bond = bond


class Unknown(OutshinerError):
    """A string that must be a lamp or a bond of the web and is none."""

    def __init__(self, name):
        self.name = name


class Missing(OutshinerError):
    """A lamp for which a dict has no key."""

    def __init__(self, lamp):
        self.lamp = lamp


class BadStretch(OutshinerError):
    """A number of a world that a stretch does not replace by a greater one."""

    def __init__(self, number):
        self.number = number


class WebsDiffer(OutshinerError):
    """Two worlds whose webs are not equal."""


class BordersDiffer(OutshinerError):
    """A border lamp that keeps two pieces from fitting."""

    def __init__(self, lamp):
        self.lamp = lamp


class OutOfRange(OutshinerError):
    """A count or a place that is not between low and high."""

    def __init__(self, number, low, high):
        self.number = number
        self.low = low
        self.high = high


class TooLarge(OutshinerError):
    """A search, a diary or a book that is larger than its limit."""

    def __init__(self, limit):
        self.limit = limit


class BadText(OutshinerError):
    """A text that cannot be read; lines are numbered from 1."""

    def __init__(self, line):
        self.line = line


class BadErrand(OutshinerError):
    """A statement that no errand can have at this place."""

    def __init__(self, place):
        self.place = place


class BadRow(OutshinerError):
    """The first wrong row of a book."""

    def __init__(self, place):
        self.place = place


class Refused(OutshinerError):
    """A deed that is refused."""

    def __init__(self, bond, cause):
        self.bond = bond
        self.cause = cause


class Broken(OutshinerError):
    """A history with a refused deed."""

    def __init__(self, place, bond, cause):
        self.place = place
        self.bond = bond
        self.cause = cause


class NotComing(OutshinerError):
    """A world that does not come of another one."""

    def __init__(self, paper):
        self.paper = paper


class Ungranted(OutshinerError):
    """A wish that is not granted."""

    def __init__(self, paper):
        self.paper = paper


class Halted(OutshinerError):
    """An errand that is halted."""

    def __init__(self, place, cause):
        self.place = place
        self.cause = cause


class Empty(OutshinerError):
    """There is nothing to undo."""
