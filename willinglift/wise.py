"""Which moves are not silly, told by two numbers."""

from willinglift.checks import is_way
from willinglift.choices import Choices, aboard_of, scale_of
from willinglift.errors import BadWay, TooMany
from willinglift.moves import MOST_LISTED, has_too_many
from willinglift.rides import Ride


def needs(standing, way):
    """The pair of how many of those aboard have to want this way, and how many others there may be.

    None if each move this way is silly, or there is none.
    """
    if not is_way(way):
        raise BadWay()
    return Ride(standing).needs(way)


def ways(standing):
    """The ascending tuple of the ways on which some move is not silly."""
    return Ride(standing).ways()


def wise_moves(standing):
    """The ascending list of the moves that are not silly."""
    if has_too_many(standing):
        raise TooMany(MOST_LISTED)
    ride = Ride(standing)
    crowd = ride.crowds[ride.lift]
    scale = scale_of(crowd)
    moves = []
    for way in ride.ways():
        least, most = ride.needs(way)
        choices = Choices(crowd, scale, ride.keens(way)).listed(ride.house.room, least, most)
        moves.extend([(way, aboard_of(scale, choice)) for choice in choices])
    return moves


def willing_move(standing):
    """A move that is not silly, None if the standing is done."""
    return Ride(standing).willing()
