"""The errors of the package, each one with the field that it is made with."""


class MapError(ValueError):
    """Any argument that is refused."""


class BadPlaces(MapError):
    """A value that is no places, or places that there are too many of."""

    def __init__(self, value):
        self.value = value


class BadPlace(MapError):
    """A value that is no place, or no word for one, where one is asked for."""

    def __init__(self, value):
        self.value = value


class BadLot(MapError):
    """A value that is no lot of the kind that is asked for."""

    def __init__(self, value):
        self.value = value


class BadTurns(MapError):
    """Turns that are no map: place is None, or the name of the first rule that is broken."""

    def __init__(self, place):
        self.place = place


class BadSpots(MapError):
    """No spots: place is None, the number of an item, or a three that lies on one line."""

    def __init__(self, place):
        self.place = place


class BadNet(MapError):
    """A value that is no net of the map."""

    def __init__(self, value):
        self.value = value


class BadRound(MapError):
    """A value that is no round of the places."""

    def __init__(self, value):
        self.value = value


class BadClaim(MapError):
    """A value that is no claim on the places."""

    def __init__(self, value):
        self.value = value


class BadFacts(MapError):
    """Facts that are refused: number tells which one, or is None for all of them."""

    def __init__(self, number):
        self.number = number


class BadNumber(MapError):
    """A value that is no number, or no truth value, of the kind that is asked for."""

    def __init__(self, value):
        self.value = value


class BadPaper(MapError):
    """A paper that does not hold: place tells what of it is not as told."""

    def __init__(self, place):
        self.place = place


class BadText(MapError):
    """A text that cannot be read: line is the first line that cannot stand there, or None."""

    def __init__(self, line):
        self.line = line


class Quarrel(LookupError):
    """A book is not possible: tree is a quarrel of it."""

    def __init__(self, tree):
        self.tree = tree


class TooMany(OverflowError):
    """More is wanted than the most that there may be."""

    def __init__(self, most):
        self.most = most
