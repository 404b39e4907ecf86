"""Houses, and standings: where the lift is, and who stands where and wants to be where."""

from willinglift.checks import is_between, is_from, is_tuple_of
from willinglift.errors import BadFloor, BadGroups, BadHouse, BadLift, BadStanding

MOST_FLOORS = 40
MOST_ROOM = 10 ** 12
MOST_GROUPS = 400
MOST_PEOPLE = 10 ** 30


class House:
    """Floors one above another, and a lift with room for so many people."""

    def __init__(self, floors, room):
        if not is_between(2, MOST_FLOORS, floors):
            raise BadHouse("floors")
        if not is_between(1, MOST_ROOM, room):
            raise BadHouse("room")
        self.floors = floors
        self.room = room

    def __eq__(self, other):
        return isinstance(other, House) and self.floors == other.floors and self.room == other.room


class Standing:
    """The floor of the lift, and the groups of people in a house."""

    def __init__(self, house, lift, groups):
        if not isinstance(house, House):
            raise BadStanding("house")
        if not is_floor(house, lift):
            raise BadStanding("lift")
        if not is_bounded_groups(house.floors, groups):
            raise BadStanding("groups")
        self.house = house
        self.lift = lift
        self.groups = groups

    def __eq__(self, other):
        return (isinstance(other, Standing) and self.house == other.house
                and self.lift == other.lift and self.groups == other.groups)


def is_floor(house, thing):
    """Whether a thing is a floor of the house."""
    return is_between(0, house.floors - 1, thing)


def is_group(floors, thing):
    """Whether a thing is a group of a house with so many floors."""
    return (is_tuple_of(3, thing) and is_between(0, floors - 1, thing[0])
            and is_between(0, floors - 1, thing[1]) and is_from(1, thing[2]))


def is_bounded_groups(floors, thing):
    """Whether a thing is groups as a standing is constructed of."""
    if not isinstance(thing, tuple) or len(thing) > MOST_GROUPS:
        return False
    ahead = (-1, -1)
    for group in thing:
        if not is_group(floors, group) or group[2] > MOST_PEOPLE or group[:2] <= ahead:
            return False
        ahead = group[:2]
    return True


def unbounded(house, lift, groups):
    """The Standing of ascending groups, however many and great they are."""
    standing = Standing(house, lift, ())
    # The constructor's bounds do not hold here, so that groups are set behind it.
    standing.groups = groups
    return standing


def gathered(house, lift, crowd):
    """The Standing of a dict from pairs (stand, want) to how many they are, perhaps none."""
    groups = [(stand, want, many) for (stand, want), many in crowd.items() if many > 0]
    return unbounded(house, lift, tuple(sorted(groups)))


def crowd_of(standing):
    """The dict from pairs (stand, want) to how many they are."""
    return {(stand, want): many for stand, want, many in standing.groups}


def changed(standing, lift, changes):
    """The Standing with the lift on a floor, and so many people of each pair more as a dict tells."""
    crowd = crowd_of(standing)
    for pair, many in changes.items():
        crowd[pair] = crowd.get(pair, 0) + many
    return gathered(standing.house, lift, crowd)


def crowds_in(places, groups):
    """The list that has for each place the dict from wants to how many of the groups stand there."""
    crowds = [{} for _ in range(places)]
    for stand, want, many in groups:
        crowds[stand][want] = many
    return crowds


def groups_in(crowds):
    """The ascending tuple of the groups of such a list."""
    return tuple([(stand, want, crowd[want]) for stand, crowd in enumerate(crowds) for want in sorted(crowd)])


def wanted_by(crowds):
    """The dict from the places that those of such a list want to how many want them."""
    totals = {}
    for crowd in crowds:
        for want, many in crowd.items():
            totals[want] = totals.get(want, 0) + many
    return totals


def add_to(crowd, want, many):
    """Puts so many more people with a want into a crowd, or fewer."""
    crowd[want] = crowd.get(want, 0) + many
    if crowd[want] == 0:
        del crowd[want]


def standing_of(house, lift, rows):
    """The Standing of groups in any order, those of one pair added."""
    if not is_floor(house, lift):
        raise BadLift()
    if not isinstance(rows, (list, tuple)):
        raise BadGroups(-1)
    crowd = {}
    for index, group in enumerate(rows):
        if not is_group(house.floors, group):
            raise BadGroups(index)
        pair = group[:2]
        crowd[pair] = crowd.get(pair, 0) + group[2]
    return gathered(house, lift, crowd)


def is_done(standing):
    """Whether the lift is on the ground floor and all are home."""
    if not isinstance(standing, Standing) or standing.lift != 0:
        return False
    return all([group[0] == group[1] for group in standing.groups])


def people(standing):
    """How many people there are."""
    return sum([group[2] for group in standing.groups])


def held_in(standing):
    """The list of how many people stand on each floor."""
    held = [0] * standing.house.floors
    for stand, _, many in standing.groups:
        held[stand] += many
    return held


def standing_at(standing, floor):
    """The dict from the floors that people on a floor want to how many they are."""
    if not is_floor(standing.house, floor):
        raise BadFloor()
    return {want: many for stand, want, many in standing.groups if stand == floor}


def restless(standing):
    """The Standing without those who are home."""
    away = tuple([group for group in standing.groups if group[0] != group[1]])
    return unbounded(standing.house, standing.lift, away)
