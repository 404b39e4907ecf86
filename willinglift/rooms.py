"""All rooms at once: how the least number of moves depends on how many people the lift can have aboard."""

from willinglift.checks import is_between, is_from
from willinglift.errors import BadAnswer, BadLoads, BadNumber, BadRoom
from willinglift.gaps import counted, numbers_for
from willinglift.grounds import check_ground
from willinglift.houses import MOST_PEOPLE, House, Standing, people, unbounded
from willinglift.sums import trips

MOST_LOADS = 39


def rest_for(standing, room):
    """The least number of moves of the same standing in a house with another room."""
    if not is_from(1, room):
        raise BadRoom()
    return sum(numbers_for(standing, room))


def check_number(many):
    """Refuses what is no number of moves."""
    if not is_from(0, many):
        raise BadNumber()


def least_room(standing, many):
    """The least room for which so many moves are enough, None if there is none."""
    check_number(many)
    return least_enough(standing, many)


def least_enough(standing, many):
    """The same for any integer."""
    # In a room for everybody no more is to be gained.
    most = max(1, people(standing))
    if rest_for(standing, most) > many:
        return None
    low = 1
    while low < most:
        middle = (low + most) // 2
        if rest_for(standing, middle) <= many:
            most = middle
        else:
            low = middle + 1
    return low


def rooms_for(standing, many):
    """The pair of the least and the greatest room for which rest is just so many, None if there is no room.

    The greatest is None if there is none.
    """
    check_number(many)
    least = least_enough(standing, many)
    if least is None or rest_for(standing, least) < many:
        return None
    beyond = least_enough(standing, many - 1)
    return least, (None if beyond is None else beyond - 1)


def loads(standing):
    """The ascending tuple of the greatest that each gap has to bear, in which there is something."""
    check_ground(standing)
    borne = [max(up, down, 1 if left else 0) for up, down, left in counted(standing)]
    return tuple(sorted([load for load in borne if load > 0]))


def unlike_room(one, other):
    """A room for which rest is not the same of two standings, None if there is none."""
    check_ground(one)
    check_ground(other)
    ours, theirs = without_like_ones(loads(one), loads(other))
    if not ours and not theirs:
        return None
    greatest = max(ours + theirs)
    # In a room for the greatest load each is one trip; in one less the greatest, all of one side, are two.
    return greatest if len(ours) != len(theirs) else greatest - 1


def without_like_ones(ones, others):
    """The pair of the lists of what is left of two rows when what both have is left out of both."""
    left = list(others)
    kept = []
    for load in ones:
        if load in left:
            left.remove(load)
        else:
            kept.append(load)
    return kept, left


def loads_back(ask, most):
    """The loads of a hidden standing, by a function that tells rest_for of it."""
    if not is_between(1, MOST_LOADS, most):
        raise BadNumber()
    answers = {}
    found = []
    many = min(most, trips_left(ask, answers, found, MOST_PEOPLE))
    while len(found) < many:
        found.append(greatest_left(ask, answers, found, many - len(found)))
    return tuple(found[::-1])


def asked(ask, answers, room):
    """What a function tells of a room, kept in a dict, so that no room is asked for twice."""
    if room not in answers:
        answer = ask(room)
        if not is_from(0, answer):
            raise BadAnswer()
        answers[room] = answer
    return answers[room]


def trips_left(ask, answers, found, room):
    """How many trips up the loads that are not found yet take in a room."""
    return asked(ask, answers, room) // 2 - sum([trips(load, room) for load in found])


def greatest_left(ask, answers, found, many):
    """The greatest of so many loads that are not found yet: the least room in which each of them is one trip."""
    low = 1
    high = found[-1] if found else MOST_PEOPLE
    while low < high:
        middle = (low + high) // 2
        if trips_left(ask, answers, found, middle) <= many:
            high = middle
        else:
            low = middle + 1
    return low


def is_loads(thing):
    """Whether a thing is an ascending tuple of loads, like ones let."""
    if not isinstance(thing, tuple) or not 1 <= len(thing) <= MOST_LOADS:
        return False
    ahead = 1
    for load in thing:
        if not is_between(ahead, MOST_PEOPLE, load):
            return False
        ahead = load
    return True


def standing_with(row):
    """The Standing with these loads, in which all want the highest floor."""
    if not is_loads(row):
        raise BadLoads()
    top = len(row)
    groups = []
    ahead = 0
    for floor, load in enumerate(row):
        if load > ahead:
            groups.append((floor, top, load - ahead))
        ahead = load
    return Standing(House(top + 1, 1), 0, tuple(groups))


def thinned(standing):
    """The pair of the Standing without the floors that mean nothing, and the tuple of the floors that are kept."""
    marked = {0: True, standing.lift: True}
    for stand, want, _ in standing.groups:
        marked[stand] = True
        marked[want] = True
    if len(marked) == 1:
        marked[1] = True
    floors = tuple(sorted(marked))
    places = {floor: place for place, floor in enumerate(floors)}
    house = House(len(floors), standing.house.room)
    groups = tuple([(places[stand], places[want], many) for stand, want, many in standing.groups])
    return unbounded(house, places[standing.lift], groups), floors
