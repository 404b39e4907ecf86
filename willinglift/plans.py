"""Plans: moves behind which all are home and the lift is on the ground floor."""

from willinglift.checks import is_between
from willinglift.errors import BadChoice, BadNumber, TooMany
from willinglift.rides import Ride
from willinglift.silly import silly_in

MOST_PLANNED = 5000


def plan(standing):
    """A plan without silly moves."""
    return tuple(finished(Ride(standing), MOST_PLANNED))


def finished(ride, most):
    """Makes moves that are not silly until all is done, and lists them; refuses more than so many."""
    if ride.rest() > most:
        raise TooMany(MOST_PLANNED)
    moves = []
    move = ride.willing()
    while move is not None:
        ride.make(move)
        moves.append(move)
        move = ride.willing()
    return moves


def mended(standing, moves):
    """The moves ahead of the first silly one, and behind them a plan without silly moves."""
    places = silly_in(standing, moves)
    kept = moves[:places[0]] if places else moves
    ride = Ride(standing)
    for move in kept:
        ride.make(move)
    return tuple(list(kept) + finished(ride, MOST_PLANNED - len(kept)))


def led(standing, chooser, most):
    """The moves that a chooser makes until the standing is done, or so many are made."""
    if not is_between(0, MOST_PLANNED, most):
        raise BadNumber()
    ride = Ride(standing)
    moves = []
    while len(moves) < most and not ride.is_done():
        thing = chooser(ride.standing())
        if not ride.fits(thing):
            raise BadChoice(len(moves))
        ride.make(thing)
        moves.append(thing)
    return tuple(moves)


def willing(standing, chooser):
    """The moves until the standing is done, a move that is not silly in the place of each one that is, or is none."""
    ride = Ride(standing)
    if ride.rest() > MOST_PLANNED:
        raise TooMany(MOST_PLANNED)
    moves = []
    while not ride.is_done():
        thing = chooser(ride.standing())
        move = thing if ride.fits(thing) and ride.is_wise(thing) else ride.willing()
        ride.make(move)
        moves.append(move)
    return tuple(moves)
