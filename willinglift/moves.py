"""Moves: one floor up or down, with at most so many people aboard, whoever they are."""

from willinglift.choices import Choices, aboard_of, has_more, scale_of
from willinglift.errors import BadMove, BadMoves, TooMany
from willinglift.houses import changed, standing_at
from willinglift.rides import Ride, is_fit

MOST_LISTED = 20000


def is_move(standing, thing):
    """Whether a thing is a move of the standing."""
    return is_fit(standing.house, standing.lift, standing_at(standing, standing.lift), thing)


def moved(standing, move):
    """The Standing behind a move."""
    if not is_move(standing, move):
        raise BadMove()
    return shifted(standing, move)


def shifted(standing, move):
    """The Standing behind what is known to be a move."""
    way, aboard = move
    return changed(standing, standing.lift + way, carried_by(standing.lift, way, aboard))


def carried_by(lift, way, aboard):
    """The dict from pairs (stand, want) to how many more there are behind a move."""
    changes = {}
    for want, many in aboard:
        changes[(lift, want)] = -many
        changes[(lift + way, want)] = many
    return changes


def ways_out(house, lift):
    """The ascending list of the ways that lead from a floor to another one of the house."""
    return [way for way in (-1, 1) if 0 <= lift + way < house.floors]


def has_too_many(standing):
    """Whether there are more moves than are ever listed."""
    return is_too_great(standing.house, standing.lift, standing_at(standing, standing.lift))


def is_too_great(house, lift, crowd):
    """Whether there are more moves than are ever listed where this crowd stands on the floor of the lift."""
    return has_more(list(crowd.values()), house.room, MOST_LISTED // len(ways_out(house, lift)))


def all_moves(standing):
    """The ascending list of all moves."""
    if has_too_many(standing):
        raise TooMany(MOST_LISTED)
    crowd = standing_at(standing, standing.lift)
    scale = scale_of(crowd)
    room = standing.house.room
    choices = Choices(crowd, scale, [False] * standing.house.floors).listed(room, 0, room)
    aboards = [aboard_of(scale, choice) for choice in choices]
    return [(way, aboard) for way in ways_out(standing.house, standing.lift) for aboard in aboards]


def stop_of(ride, moves):
    """Makes moves of a Ride, or a Walk, up to the first thing that is none: its index, -1 for what is no tuple, None
    if all are made."""
    if not isinstance(moves, tuple):
        return -1
    for index, thing in enumerate(moves):
        if not ride.fits(thing):
            return index
        ride.make(thing)
    return None


def check_moves(standing, moves):
    """Refuses what is no moves, and gives the Ride behind them."""
    ride = Ride(standing)
    stop = stop_of(ride, moves)
    if stop is not None:
        raise BadMoves(stop)
    return ride


def behind(standing, moves):
    """The Standing behind moves."""
    return check_moves(standing, moves).standing()


def is_plan(standing, thing):
    """Whether a thing is moves behind which all is done."""
    ride = Ride(standing)
    return stop_of(ride, thing) is None and ride.is_done()
