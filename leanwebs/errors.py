"""The errors of the package, also those that only some modules raise."""


class WebsError(Exception):
    """The base of all errors of the package."""


class BadRatio(WebsError):
    """A value is not a ratio of the kind that is needed."""


class BadCount(WebsError):
    """A number of places or of pulls is not one that can be used."""


class BadPlace(WebsError):
    """A value is not a place of the web."""


class BadTie(WebsError):
    """There is no tie of this number, or the tie has not the right form."""

    def __init__(self, number):
        self.number = number


class BadPull(WebsError):
    """The pull of this tie is not strictly between -1 and 1."""

    def __init__(self, number):
        self.number = number


class BadLot(WebsError):
    """A value is not a lot of the kind that is needed."""


class OddLot(WebsError):
    """A lot has an odd number of places where an even one is needed."""


class BadSaying(WebsError):
    """A value is not a saying of the places."""


class BadBundle(WebsError):
    """A value is not a bundle of the web."""


class BadParting(WebsError):
    """A value is not a parting of the places."""


class BadRow(WebsError):
    """A value is not a row of the kind that is needed."""


class TooMany(WebsError):
    """There are more of something than a function takes."""

    def __init__(self, many, most):
        self.many = many
        self.most = most


class NotPositive(WebsError):
    """The tie of this number is the first one whose pull is not above 0."""

    def __init__(self, number):
        self.number = number


class BelowZero(WebsError):
    """The tie of this number is the first one whose pull is below 0."""

    def __init__(self, number):
        self.number = number


class Apart(WebsError):
    """The web does not hang together."""


class UnlikeShapes(WebsError):
    """Two webs have not the same shape."""


class BadSpread(WebsError):
    """A spread is wrong at this index, or as a whole (-1)."""

    def __init__(self, at):
        self.at = at


class NotWebs(WebsError):
    """The spread is no web's, as its boxes of these two places show."""

    def __init__(self, u, v):
        self.u = u
        self.v = v


class BadLine(WebsError):
    """The text of a web is wrong in this line, counted from 1."""

    def __init__(self, number):
        self.number = number


class BadStretch(WebsError):
    """The stretch of this number is wrong."""

    def __init__(self, number):
        self.number = number


class BadRates(WebsError):
    """Rates are not of the kind that is needed."""


class BadLaying(WebsError):
    """A laying is wrong at this place."""

    def __init__(self, place):
        self.place = place


class BadTable(WebsError):
    """A table is wrong at this index, or as a whole (-1)."""

    def __init__(self, at):
        self.at = at


class Level(WebsError):
    """Something that has to move stays."""


class NoTie(WebsError):
    """There is no tie where one is needed."""
