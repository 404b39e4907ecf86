"""Lifts that go by simple rules, and contests of lifts."""

from willinglift.checks import is_between
from willinglift.errors import BadNumber, TooMany
from willinglift.houses import is_done, restless
from willinglift.moves import behind
from willinglift.plans import MOST_PLANNED, led
from willinglift.rides import Ride
from willinglift.silly import silly_in


def swept(standing):
    """The moves of a lift that sweeps up and down until all is done."""
    ride = Ride(standing)
    moves = []
    way = 1
    while not ride.is_done():
        if len(moves) == MOST_PLANNED:
            raise TooMany(MOST_PLANNED)
        way = sweep_way(ride, way)
        move = (way, ride.farthest(way))
        ride.make(move)
        moves.append(move)
    return tuple(moves)


def sweep_way(ride, way):
    """The way on which a lift goes on that has swept this way so far, where not all is done."""
    if way == 1:
        return 1 if ride.is_left_above() else -1
    return 1 if ride.lift == 0 else -1


def carried(standing):
    """The moves of a lift that carries one group after another."""
    moves = []
    lift = standing.lift
    # Whoever is set down is home, so that the groups of the beginning are the least ones one after another.
    for stand, want, many in restless(standing).groups:
        left = many
        while left > 0:
            aboard = min(left, standing.house.room)
            moves.extend(straight(lift, stand, ()))
            moves.extend(straight(stand, want, ((want, aboard),)))
            check_many(moves)
            left -= aboard
            lift = want
    moves.extend(straight(lift, 0, ()))
    check_many(moves)
    return tuple(moves)


def straight(start, end, aboard):
    """The list of the moves from one floor straight to another with these aboard."""
    way = 1 if end > start else -1
    return [(way, aboard)] * abs(end - start)


def check_many(moves):
    """Refuses moves that are too many."""
    if len(moves) > MOST_PLANNED:
        raise TooMany(MOST_PLANNED)


def contest(standing, choosers, most):
    """The list of how many moves each chooser makes, None if they lead to no end, and how many of them are silly."""
    if not is_between(0, MOST_PLANNED, most):
        raise BadNumber()
    return [score(standing, led(standing, chooser, most)) for chooser in choosers]


def score(standing, moves):
    """The pair (many, silly) of moves, with None for many if the standing is not done behind them."""
    many = len(moves) if is_done(behind(standing, moves)) else None
    return many, len(silly_in(standing, moves))
