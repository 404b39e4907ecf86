"""Prices of moves through gaps: each plan without silly moves costs the least."""

from willinglift.checks import is_between, is_tuple_of
from willinglift.errors import BadLog, BadPrices
from willinglift.gaps import numbers
from willinglift.logs import run_of
from willinglift.moves import check_moves
from willinglift.sums import halves

MOST_PRICE = 10 ** 12


def is_pair_of_prices(thing):
    """Whether a thing is what a move up, and down, through a gap costs."""
    return (is_tuple_of(2, thing) and is_between(0, MOST_PRICE, thing[0])
            and is_between(0, MOST_PRICE, thing[1]))


def check_prices(standing, prices):
    """Refuses what is no prices of the house."""
    if not is_tuple_of(standing.house.floors - 1, prices) or not all([is_pair_of_prices(pair) for pair in prices]):
        raise BadPrices()


def through(standing, moves):
    """The tuple with the pair of how often moves go up and down through each gap."""
    check_moves(standing, moves)
    ups = [0] * (standing.house.floors - 1)
    downs = [0] * (standing.house.floors - 1)
    lift = standing.lift
    for way, _ in moves:
        if way == 1:
            ups[lift] += 1
        else:
            downs[lift - 1] += 1
        lift += way
    return tuple(zip(ups, downs))


def bill(standing, prices, log):
    """What all moves of a log cost."""
    check_prices(standing, prices)
    stretch = run_of(standing, log)
    if stretch is None:
        raise BadLog()
    return sum([often * price(prices[gap], way) for (gap, way), often in stretch.passes.items()])


def price(pair, way):
    """What a move this way costs by a pair of prices."""
    up, down = pair
    return up if way == 1 else down


def least_bill(standing, prices):
    """The least that a plan costs."""
    check_prices(standing, prices)
    total = 0
    for (up, down), number in zip(prices, numbers(standing)):
        ups, downs = halves(number)
        total += ups * up + downs * down
    return total
