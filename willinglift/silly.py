"""Silly moves: those that raise the least number of moves instead of lowering it."""

from willinglift.errors import BadMove, BadMoves
from willinglift.gaps import rest
from willinglift.logs import behind_log, length_of
from willinglift.moves import is_move, shifted
from willinglift.rides import Ride


def change(standing, move):
    """How much rest rises by a move: 1 or -1."""
    if not is_move(standing, move):
        raise BadMove()
    return rest(shifted(standing, move)) - rest(standing)


def silly_in(standing, moves):
    """The list of the places of the silly ones of moves."""
    return silly_places(Ride(standing), moves)


def silly_places(ride, moves):
    """Makes moves of a Ride, or a Walk, and lists the places of those that are silly."""
    if not isinstance(moves, tuple):
        raise BadMoves(-1)
    places = []
    for index, thing in enumerate(moves):
        if not ride.fits(thing):
            raise BadMoves(index)
        if not ride.is_wise(thing):
            places.append(index)
        ride.make(thing)
    return places


def many_silly(standing, log):
    """How many moves of a log are silly."""
    fallen = rest(standing) - rest(behind_log(standing, log))
    # Each move that is not silly lowers rest by one, and each silly one raises it by one.
    return (length_of(log) - fallen) // 2
