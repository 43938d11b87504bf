"""The errors of the package, each with its values as attributes.

A value that may be a tuple is copied, so that a list counts as one here as well.
"""

from surershares.basics import frozen


class NoName(LookupError):
    """The Keys do not have this name."""

    def __init__(self, name):
        self.name = name


class NoPlace(LookupError):
    """There is nothing at this place."""

    def __init__(self, place):
        self.place = place


class NoRecord(LookupError):
    """No record has this number."""

    def __init__(self, number):
        self.number = number


class NoService(LookupError):
    """The board has no service of this name."""

    def __init__(self, name):
        self.name = name


class NoFloor(LookupError):
    """The board has no floor of this name."""

    def __init__(self, name):
        self.name = name


class BadKeyset(ValueError):
    """A text is not that of a KEYSET."""

    def __init__(self, given):
        self.given = given


class BadSampler(ValueError):
    """A text is not that of a Sampler."""

    def __init__(self, given):
        self.given = given


class BadSalt(ValueError):
    """A string is no SALT."""

    def __init__(self, given):
        self.given = given


class BadShare(ValueError):
    """A pair of numbers is no SHARE."""

    def __init__(self, given):
        self.given = frozen(given)


class BadKind(ValueError):
    """A word is no kind."""

    def __init__(self, given):
        self.given = given


class BadText(ValueError):
    """Nothing has this text."""


class BadLine(ValueError):
    """The line of this number is wrong."""

    def __init__(self, number):
        self.number = number


class BadLog(ValueError):
    """What stands at this place is no LOG."""

    def __init__(self, place):
        self.place = place


class BadNumbers(ValueError):
    """The numbers of the coins are wrong from this place on."""

    def __init__(self, place):
        self.place = place


class Ringed(ValueError):
    """These names would tell themselves."""

    def __init__(self, ring):
        self.ring = frozen(ring)


class MixedKeys(ValueError):
    """Two objects have unlike Keys."""


class Doubled(ValueError):
    """This number stands twice."""

    def __init__(self, number):
        self.number = number


class Unlawful(ValueError):
    """Two records are alike in a name and unlike in one that it tells."""

    def __init__(self, first, second, name):
        self.first = first
        self.second = second
        self.name = name


class NotThinner(ValueError):
    """A pipeline has a greater share for this KEYSET."""

    def __init__(self, given):
        self.given = frozen(given)


class NoPipeline(ValueError):
    """No share of this KEYSET gives the number asked for."""

    def __init__(self, given):
        self.given = frozen(given)


class NotWithin(ValueError):
    """The lower KEYSET is not within this one, or is this one."""

    def __init__(self, given):
        self.given = frozen(given)


class TooMuch(ValueError):
    """The share of this KEYSET would be above one."""

    def __init__(self, given):
        self.given = frozen(given)


class NoContrast(ValueError):
    """The stream with its worths shows nothing."""


class NoCrowd(ValueError):
    """The stream of many records shows nothing."""


class TooLong(ValueError):
    """A stream would have this many records."""

    def __init__(self, length):
        self.length = length


class OverBudget(ValueError):
    """The cost would be this, above the budget."""

    def __init__(self, price):
        self.price = frozen(price)


class Outside(ValueError):
    """The floor of this name would not hold."""

    def __init__(self, name):
        self.name = name


class Taken(ValueError):
    """A service has this name already."""

    def __init__(self, name):
        self.name = name


class Stopped(ValueError):
    """A deed of an attempt raised an error."""

    def __init__(self, number, word, held):
        self.number = number
        self.word = word
        self.held = frozen(held)
