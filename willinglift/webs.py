"""All standings that come up in plans without silly moves, and which of them stands behind which."""

from willinglift.choices import Choices, aboard_of, choice_of, scale_of
from willinglift.errors import TooMany
from willinglift.gaps import rest
from willinglift.moves import MOST_LISTED, has_too_many, shifted
from willinglift.rides import Ride

MOST_STANDINGS = 20000


class Web:
    """Standings under numbers from 0, the first one, on, none ahead of those that stand behind fewer moves.

    standings has each of them, depths behind how many moves it stands, came the number of one that it stands behind
    and last the move from there (of the first one, its own and None), nexts the list of those that stand behind it,
    ascending by the moves that lead there.
    """

    def __init__(self, standing):
        least = rest(standing)
        # As many standings, and the last one, come up in each plan.
        if least >= MOST_STANDINGS:
            raise TooMany(MOST_STANDINGS)
        self.scale = scale_of(differences(standing, least))
        self.powers = powers_of(self.scale, standing.house.floors)
        # Each standing has a code, in which a move is a sum, so that it is soon found again.
        self.codes = [0]
        self.places = {0: 0}
        self.depths = [0]
        self.came = [0]
        self.last = [None]
        self.standings = [standing]
        self.nexts = [self.spun(0)]
        while len(self.nexts) < len(self.codes):
            at = len(self.nexts)
            self.standings.append(shifted(self.standings[self.came[at]], self.last[at]))
            self.nexts.append(self.spun(at))

    def spun(self, at):
        """The numbers of the standings behind the moves of one that are not silly, in the order of the moves."""
        ride = Ride(self.standings[at])
        if not ride.is_done() and has_too_many(self.standings[at]):
            raise TooMany(MOST_LISTED)
        found = []
        for way in (-1, 1):
            bounds = ride.needs(way)
            if bounds is not None:
                found.extend(self.reached(at, ride, way, bounds))
        return found

    def reached(self, at, ride, way, bounds):
        """The numbers of the standings behind the moves one way that are not silly."""
        least, most = bounds
        crowd = ride.crowds[ride.lift]
        listed = Choices(crowd, self.scale, ride.lift, way).listed(ride.house.room, least, most)
        base = self.codes[at] + way
        stride = self.stride(ride.lift, way)
        places = self.places
        found = []
        for choice in listed:
            code = base + choice * stride
            if code not in places:
                self.enter(at, code, (way, aboard_of(self.scale, choice)))
            found.append(places[code])
        return found

    def enter(self, at, code, move):
        """Gives the next number to the standing behind a move."""
        if len(self.codes) == MOST_STANDINGS:
            raise TooMany(MOST_STANDINGS)
        self.places[code] = len(self.codes)
        self.codes.append(code)
        self.depths.append(self.depths[at] + 1)
        self.came.append(at)
        self.last.append(move)

    def stride(self, lift, way):
        """By how much a move this way changes the code for each unit of a choice."""
        return self.powers[lift + way] - self.powers[lift]

    def move_to(self, at, other):
        """The move that leads from one standing to another that stands behind it."""
        lift = self.standings[at].lift
        way = self.standings[other].lift - lift
        choice = (self.codes[other] - self.codes[at] - way) // self.stride(lift, way)
        return way, aboard_of(self.scale, choice)

    def moves_along(self, path):
        """The moves that lead from each standing of a row of numbers to the next."""
        return tuple([self.move_to(at, other) for at, other in zip(path, path[1:])])

    def place_behind(self, at, move):
        """The number of the standing behind a move that is not silly."""
        way, aboard = move
        stride = self.stride(self.standings[at].lift, way)
        return self.places[self.codes[at] + way + choice_of(self.scale, aboard) * stride]


def differences(standing, many):
    """The dict from the floors that are wanted to by how many, at most, those who want them and stand on one floor
    are more in one of the standings behind so many moves, or fewer, than in another."""
    most = 2 * many * standing.house.room
    totals = {}
    for _, want, people in standing.groups:
        totals[want] = min(most, totals.get(want, 0) + people)
    return totals


def powers_of(scale, floors):
    """How much each unit of a choice counts in a code for each floor that it can stand on.

    The floor of the lift is the lowest digit of a code.
    """
    # Floors are told apart also where there is nobody.
    base = 2
    for _, _, size in scale:
        base = base * size
    powers = [floors]
    while len(powers) < floors:
        powers.append(powers[-1] * base)
    return powers
