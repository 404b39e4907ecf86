"""Newcomers: groups that join, and what this changes."""

from willinglift.checks import is_between, is_tuple_of
from willinglift.errors import BadChoice, BadFloor, BadGroup, BadNews, TooMany
from willinglift.gaps import numbers, spare
from willinglift.houses import MOST_PEOPLE, changed, is_floor, is_group
from willinglift.plans import MOST_PLANNED
from willinglift.rides import Ride


def check_group(house, group):
    """Refuses what is no group that can join."""
    if not is_group(house.floors, group) or group[2] > MOST_PEOPLE:
        raise BadGroup()


def joined(standing, group):
    """The Standing with a group more."""
    check_group(standing.house, group)
    stand, want, many = group
    return changed(standing, standing.lift, {(stand, want): many})


def raised(standing, group):
    """The tuple of how much the number of each gap rises by a group that joins."""
    later = numbers(joined(standing, group))
    return tuple([high - low for high, low in zip(later, numbers(standing))])


def free_seats(standing, stand, want):
    """How many people at most can join, standing on one floor and wanting another, so that rest stays as it is."""
    if not is_floor(standing.house, stand) or not is_floor(standing.house, want):
        raise BadFloor()
    if stand == want:
        return None
    # A gap below that the lift need not go through so far has only such gaps above it, and these have no seats.
    way = 0 if stand < want else 1
    return min([spare(standing, gap)[way] for gap in range(min(stand, want), max(stand, want))])


def check_news(house, news):
    """Refuses what is no news of the house."""
    if not isinstance(news, tuple):
        raise BadNews(-1)
    ahead = 0
    for index, thing in enumerate(news):
        if (not is_tuple_of(2, thing) or not is_between(ahead, MOST_PLANNED, thing[0])
                or not is_group(house.floors, thing[1])):
            raise BadNews(index)
        ahead = thing[0]


def with_news(standing, chooser, news):
    """The moves of a chooser, while groups join as soon as so many moves are made."""
    check_news(standing.house, news)
    ride = Ride(standing)
    moves = []
    # What is spent is how many moves were made, and how much was skipped because there was nothing to do.
    spent = 0
    place = 0
    while place < len(news) or not ride.is_done():
        if place < len(news) and (ride.is_done() or news[place][0] <= spent):
            when, group = news[place]
            spent = max(spent, when)
            ride.take_in(group)
            place += 1
            continue
        if len(moves) == MOST_PLANNED:
            raise TooMany(MOST_PLANNED)
        thing = chooser(ride.standing())
        if not ride.fits(thing):
            raise BadChoice(len(moves))
        ride.make(thing)
        moves.append(thing)
        spent += 1
    return tuple(moves)
