"""Gaps: what is wanted through them, and the least number of moves, which is the sum of their numbers."""

from willinglift.checks import is_between, is_from
from willinglift.errors import BadGap, BadNumber
from willinglift.sums import halves, number_of, tops_of, wanted_through


def check_gap(standing, gap):
    """Refuses what is no gap of the house."""
    if not is_between(0, standing.house.floors - 2, gap):
        raise BadGap()


def counted(standing):
    """The list of the counts of all gaps."""
    up, down = wanted_through(standing)
    tops = tops_of(standing)
    return [(up[gap], down[gap], sum(tops[gap + 1:]) > 0) for gap in range(standing.house.floors - 1)]


def counts(standing, gap):
    """The triple (up, down, left) of who wants through a gap, and whether somebody is left above it."""
    check_gap(standing, gap)
    return counted(standing)[gap]


def number(standing, gap):
    """How often a gap is gone through at least."""
    check_gap(standing, gap)
    return numbers(standing)[gap]


def numbers(standing):
    """The tuple of the numbers of all gaps."""
    return tuple(numbers_for(standing, standing.house.room))


def numbers_for(standing, room):
    """The list of the numbers of all gaps of the same standing in a house with another room."""
    return [number_of(room, up, down, left, standing.lift > gap)
            for gap, (up, down, left) in enumerate(counted(standing))]


def rest(standing):
    """The least number of moves of a plan."""
    return sum(numbers_for(standing, standing.house.room))


def crossings(standing, gap):
    """The pair of how often a plan without silly moves goes up, and down, through a gap."""
    return halves(number(standing, gap))


def spare(standing, gap):
    """The pair of how many seats such a plan leaves over through a gap, up and down."""
    up, down, _ = counts(standing, gap)
    ups, downs = crossings(standing, gap)
    room = standing.house.room
    return room * ups - up, room * downs - down


def enough(standing, many):
    """Whether there is a plan of just so many moves."""
    if not is_from(0, many):
        raise BadNumber()
    more = many - rest(standing)
    return more >= 0 and more % 2 == 0
