"""Wishes of which only counts are known: how many stand on each floor, and how many want it."""

from willinglift.checks import is_between, is_from, is_tuple_of
from willinglift.errors import BadCounts, BadFacts, BadFloor, BadNumber
from willinglift.gaps import rest
from willinglift.houses import (MOST_PEOPLE, Standing, changed, gathered, held_in, is_floor, is_group, standing_of,
                                unbounded)
from willinglift.shares import all_shares


def is_counts(house, thing):
    """Whether a thing is a tuple with a number of people for each floor."""
    return is_tuple_of(house.floors, thing) and all([is_between(0, MOST_PEOPLE, many) for many in thing])


def check_counts(house, stands, wants):
    """Refuses what is not how many stand on each floor, and how many want it."""
    if not is_counts(house, stands) or not is_counts(house, wants) or sum(list(stands)) != sum(list(wants)):
        raise BadCounts()


def is_wishes(house, stands, wants, thing):
    """Whether a thing is a standing with the lift on the ground floor and just these counts."""
    check_counts(house, stands, wants)
    if not isinstance(thing, Standing) or thing.house != house or thing.lift != 0:
        return False
    return tuple(held_in(thing)) == stands and tuple(wanted_in(thing)) == wants


def wanted_in(standing):
    """The list of how many people want each floor."""
    wanted = [0] * standing.house.floors
    for _, want, many in standing.groups:
        wanted[want] += many
    return wanted


def dealt(stands, wants, order):
    """The dict from pairs (stand, want) to how many, if wishes are given in this order from the lowest stander on."""
    crowd = {}
    left = list(wants)
    place = 0
    for stand, many in enumerate(stands):
        lack = many
        while lack > 0:
            want = order[place]
            taken = min(lack, left[want])
            crowd[(stand, want)] = taken
            lack -= taken
            left[want] -= taken
            # The order goes on when all who want a floor are found, at last to the end with the last stander.
            if left[want] == 0:
                place += 1
    return crowd


def in_order(stands, wants):
    """The dict of wishes so that who stands lower never wants higher than who stands above."""
    return dealt(stands, wants, list(range(len(wants))))


def against_order(stands, wants):
    """The dict of wishes so that who stands lower never wants lower than who stands above."""
    return dealt(stands, wants, list(range(len(wants)))[::-1])


def least_wishes(house, stands, wants):
    """The wishes in order, for which the number of each gap is least."""
    check_counts(house, stands, wants)
    return gathered(house, 0, in_order(stands, wants))


def most_wishes(house, stands, wants):
    """The wishes against the order, for which the number of each gap is greatest."""
    check_counts(house, stands, wants)
    return gathered(house, 0, against_order(stands, wants))


def travel_bounds(house, stands, wants):
    """The pair of the least and the greatest rest of all wishes."""
    return rest(least_wishes(house, stands, wants)), rest(most_wishes(house, stands, wants))


def pair_bounds(house, stands, wants, stand, want):
    """The pair of the least and the greatest number of those who stand on one floor and want another."""
    check_counts(house, stands, wants)
    if not is_floor(house, stand) or not is_floor(house, want):
        raise BadFloor()
    everybody = sum(list(stands))
    return max(0, stands[stand] + wants[want] - everybody), min(stands[stand], wants[want])


def is_sure(house, stands, wants, many):
    """True if rest of all wishes is at most so many, False if that of none is, None otherwise."""
    least, most = travel_bounds(house, stands, wants)
    if not is_from(0, many):
        raise BadNumber()
    if most <= many:
        return True
    return False if least > many else None


def wishes_of(house, stands, wants, many):
    """The least of the wishes whose rest is just so many, None if there are none."""
    check_counts(house, stands, wants)
    if not is_from(0, many):
        raise BadNumber()
    for groups in all_shares(stands, wants):
        wishes = unbounded(house, 0, groups)
        if rest(wishes) == many:
            return wishes
    return None


def known_of(house, facts):
    """The Standing of those of whom facts tell where they stand and want."""
    if not isinstance(facts, (list, tuple)):
        raise BadFacts(-1)
    for index, fact in enumerate(facts):
        if not is_group(house.floors, fact):
            raise BadFacts(index)
    return standing_of(house, 0, facts)


def bounds_with(house, stands, wants, facts):
    """The pair of the least and the greatest rest of the wishes of which facts are true."""
    check_counts(house, stands, wants)
    known = known_of(house, facts)
    others = [many - less for many, less in zip(stands, held_in(known))]
    wishes = [many - less for many, less in zip(wants, wanted_in(known))]
    if min(others + wishes) < 0:
        raise BadFacts(-1)
    # The others are free, and what they want through each gap is added to what those of the facts want.
    least = changed(known, 0, in_order(others, wishes))
    most = changed(known, 0, against_order(others, wishes))
    return rest(least), rest(most)
