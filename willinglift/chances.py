"""Chances of what is wanted, if all ways to share out the wishes among the people are equally likely."""

from math import comb, factorial, gcd

from willinglift.checks import is_between
from willinglift.errors import BadGap, TooMany
from willinglift.sums import number_of
from willinglift.wishes import check_counts

MOST_TOLD_APART = 60


def check_few(stands):
    """Refuses more people than are told apart."""
    if sum(list(stands)) > MOST_TOLD_APART:
        raise TooMany(MOST_TOLD_APART)


def reduced(top, bottom):
    """A fraction in lowest terms."""
    shared = gcd(top, bottom)
    return top // shared, bottom // shared


def up_ways(stands, wants, gap):
    """The ascending list of the pairs (up, ways): in how many of the ways to choose who wants at or below a gap, and
    who above it, so many want up through it."""
    everybody = sum(list(stands))
    below = sum(list(stands[:gap + 1]))
    above = sum(list(wants[gap + 1:]))
    ways = [(up, comb(above, up) * comb(everybody - above, below - up)) for up in range(min(below, above) + 1)]
    return [(up, many) for up, many in ways if many > 0]


def gap_chances(house, stands, wants, gap):
    """The ascending list of the pairs (up, chance) of how many want up through a gap."""
    check_counts(house, stands, wants)
    if not is_between(0, house.floors - 2, gap):
        raise BadGap()
    check_few(stands)
    ways = up_ways(stands, wants, gap)
    total = sum([many for _, many in ways])
    return [(up, reduced(many, total)) for up, many in ways]


def mean_rest(house, stands, wants):
    """The mean of rest, a fraction."""
    check_counts(house, stands, wants)
    check_few(stands)
    total = sum([summed_numbers(house.room, stands, wants, gap) for gap in range(house.floors - 1)])
    return reduced(total, factorial(sum(list(stands))))


def summed_numbers(room, stands, wants, gap):
    """The sum of the numbers of a gap over all orders in which the wishes are given to the people."""
    below = sum(list(stands[:gap + 1]))
    above = sum(list(stands[gap + 1:]))
    wanted = sum(list(wants[gap + 1:]))
    total = 0
    for up, ways in up_ways(stands, wants, gap):
        down = up + above - wanted
        # Somebody is left above, but where all who stand or want there are home.
        number = number_of(room, up, down, True, False)
        total += number * ways * factorial(below) * factorial(above)
    return total - 2 * quiet_orders(stands, wants, gap)


def quiet_orders(stands, wants, gap):
    """In how many of these orders all who stand or want above a gap are home."""
    if stands[gap + 1:] != wants[gap + 1:]:
        return 0
    orders = factorial(sum(list(stands[:gap + 1])))
    for many in stands[gap + 1:]:
        orders = orders * factorial(many)
    return orders
