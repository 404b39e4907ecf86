"""The errors of the package: each derives directly from LiftError."""


class LiftError(ValueError):
    """What all errors of this package are."""


class BadHouse(LiftError):
    """No house; part names the first argument that is wrong."""

    def __init__(self, part):
        self.part = part


class BadStanding(LiftError):
    """No standing; part names the first argument that is wrong."""

    def __init__(self, part):
        self.part = part


class BadLift(LiftError):
    """The lift is on no floor of the house."""


class BadGroups(LiftError):
    """No groups; index tells the first thing that is none, -1 that there is no row."""

    def __init__(self, index):
        self.index = index


class BadFloor(LiftError):
    """No floor of the house."""


class BadMove(LiftError):
    """No move of the standing."""


class TooMany(LiftError):
    """There are more than the limit."""

    def __init__(self, limit):
        self.limit = limit


class BadMoves(LiftError):
    """No moves; index tells the first thing that is none, -1 that there is no tuple."""

    def __init__(self, index):
        self.index = index


class BadLog(LiftError):
    """No log."""


class BadGap(LiftError):
    """No gap of the house."""


class BadNumber(LiftError):
    """No number of the kind that is asked for."""


class BadWay(LiftError):
    """Neither up nor down."""


class BadChoice(LiftError):
    """A chooser gave no move; index tells the place it was asked for."""

    def __init__(self, index):
        self.index = index


class NoPlan(LiftError):
    """No plan without silly moves."""


class NotGround(LiftError):
    """The lift is not on the ground floor."""


class BadPrices(LiftError):
    """No prices of the house."""


class BadRoom(LiftError):
    """No room."""


class BadAnswer(LiftError):
    """A function that was asked gave no number."""


class BadCounts(LiftError):
    """No counts of who stands and who wants."""


class BadGroup(LiftError):
    """No group that can join."""


class BadNews(LiftError):
    """No news; index tells the first thing that is none, -1 that there is no tuple."""

    def __init__(self, index):
        self.index = index


class NothingDone(LiftError):
    """There is nothing to take back."""


class BadText(LiftError):
    """No such text; index tells the first line or word that is wrong, -1 that there is no string."""

    def __init__(self, index):
        self.index = index


class NoLine(LiftError):
    """No line that the desk knows."""


class NoName(LiftError):
    """There is no standing under the name."""

    def __init__(self, name):
        self.name = name


class BadLoads(LiftError):
    """No loads."""


class BadFacts(LiftError):
    """No facts; index tells the first thing that is none, -1 what is wrong with all of them."""

    def __init__(self, index):
        self.index = index


class BadSeen(LiftError):
    """Nothing that was seen; index tells the first thing that is wrong, -1 that there is no tuple."""

    def __init__(self, index):
        self.index = index


class BadTree(LiftError):
    """No tree; part names the first argument that is wrong."""

    def __init__(self, part):
        self.part = part


class BadRoad(LiftError):
    """No road of the tree."""
