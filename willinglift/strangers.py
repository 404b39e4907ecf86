"""Strangers: what is to be said of their plans, of what they claim, and of too few moves."""

from math import comb

from willinglift.checks import is_between, is_from, is_integer
from willinglift.errors import BadNumber, TooMany
from willinglift.gaps import numbers, rest
from willinglift.houses import Standing
from willinglift.moves import stop_of
from willinglift.rides import Ride
from willinglift.silly import silly_in

MOST_CLAIMED = 3
MOST_REFUTED = 20000


def judged(standing, thing):
    """The pair of what a stranger's plan is, and what tells it."""
    ride = Ride(standing)
    stop = stop_of(ride, thing)
    if stop is not None:
        return "none", stop
    if not ride.is_done():
        return "open", ride.rest()
    places = silly_in(standing, thing)
    return ("silly", places) if places else ("least", len(thing))


def refuted(claim, house, most):
    """The least triple (people, lift, groups) of a small standing of which a function does not tell rest, None if
    there is none."""
    if not is_between(1, MOST_CLAIMED, most):
        raise BadNumber()
    pairs = [(stand, want) for stand in range(house.floors) for want in range(house.floors) if stand != want]
    # Each of the people has one of the pairs, and like ones are not told apart.
    crowds = sum([comb(len(pairs) + many - 1, many) for many in range(most + 1)])
    if house.floors * crowds > MOST_REFUTED:
        raise TooMany(MOST_REFUTED)
    for many in range(most + 1):
        rows = rows_of(pairs, many)
        for lift in range(house.floors):
            for groups in rows:
                if not is_told(claim, Standing(house, lift, groups)):
                    return many, lift, groups
    return None


def rows_of(pairs, many):
    """The ascending list of all tuples of groups of so many people, of ascending pairs alone."""
    if many == 0:
        return [()]
    found = []
    for at, (stand, want) in enumerate(pairs):
        for first in range(1, many + 1):
            later = rows_of(pairs[at + 1:], many - first)
            found.extend([((stand, want, first),) + groups for groups in later])
    return found


def is_told(claim, standing):
    """Whether a function tells rest of a standing, as an integer."""
    answer = claim(standing)
    return is_integer(answer) and answer == rest(standing)


def few_moves(standing, many):
    """The pair (gap, number) of the first gap with which numbers come to more than so many together, None if so many
    moves are enough for a plan."""
    if not is_from(0, many):
        raise BadNumber()
    total = 0
    for gap, number in enumerate(numbers(standing)):
        total += number
        if total > many:
            return gap, number
    return None
