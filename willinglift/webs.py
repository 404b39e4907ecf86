"""All standings that come up in plans without silly moves, and which of them stands behind which."""

from willinglift.choices import Choices, aboard_of, choice_of
from willinglift.codes import Codes
from willinglift.errors import TooMany
from willinglift.gaps import rest
from willinglift.houses import crowds_in
from willinglift.moves import MOST_LISTED, has_too_many, shifted
from willinglift.rides import Ride

MOST_STANDINGS = 20000


class Web:
    """Standings under numbers from 0, the first one, on, none ahead of those that stand behind fewer moves.

    standings has each of them, depths behind how many moves it stands, came the number of one that it stands behind
    and last the move from there (of the first one, its own and None), nexts the list of those that stand behind it,
    ascending by the moves that lead there.
    """

    def __init__(self, standing):
        least = rest(standing)
        # As many standings, and the last one, come up in each plan.
        if least >= MOST_STANDINGS:
            raise TooMany(MOST_STANDINGS)
        crowds = crowds_in(standing.house.floors, standing.groups)
        # Each standing has a code, in which a move is a sum, so that it is soon found again.
        self.coding = Codes(crowds, least * standing.house.room)
        self.codes = [self.coding.code(standing.lift, crowds)]
        self.places = {self.codes[0]: 0}
        self.depths = [0]
        self.came = [0]
        self.last = [None]
        self.standings = [standing]
        self.nexts = [self.spun(0)]
        while len(self.nexts) < len(self.codes):
            at = len(self.nexts)
            self.standings.append(shifted(self.standings[self.came[at]], self.last[at]))
            self.nexts.append(self.spun(at))

    def spun(self, at):
        """The numbers of the standings behind the moves of one that are not silly, in the order of the moves."""
        ride = Ride(self.standings[at])
        if not ride.is_done() and has_too_many(self.standings[at]):
            raise TooMany(MOST_LISTED)
        found = []
        for way in (-1, 1):
            bounds = ride.needs(way)
            if bounds is not None:
                found.extend(self.reached(at, ride, way, bounds))
        return found

    def reached(self, at, ride, way, bounds):
        """The numbers of the standings behind the moves one way that are not silly."""
        least, most = bounds
        crowd = ride.crowds[ride.lift]
        scale = self.coding.scale
        listed = Choices(crowd, scale, ride.keens(way)).listed(ride.house.room, least, most)
        base = self.codes[at] + way
        stride = self.coding.stride(ride.lift, ride.lift + way)
        places = self.places
        found = []
        for choice in listed:
            code = base + choice * stride
            if code not in places:
                self.enter(at, code, (way, aboard_of(scale, choice)))
            found.append(places[code])
        return found

    def enter(self, at, code, move):
        """Gives the next number to the standing behind a move."""
        if len(self.codes) == MOST_STANDINGS:
            raise TooMany(MOST_STANDINGS)
        self.places[code] = len(self.codes)
        self.codes.append(code)
        self.depths.append(self.depths[at] + 1)
        self.came.append(at)
        self.last.append(move)

    def move_to(self, at, other):
        """The move that leads from one standing to another that stands behind it."""
        lift, there = self.standings[at].lift, self.standings[other].lift
        return there - lift, self.coding.aboard(lift, there, self.codes[other] - self.codes[at])

    def moves_along(self, path):
        """The moves that lead from each standing of a row of numbers to the next."""
        return tuple([self.move_to(at, other) for at, other in zip(path, path[1:])])

    def place_behind(self, at, move):
        """The number of the standing behind a move that is not silly."""
        way, aboard = move
        lift = self.standings[at].lift
        return self.places[self.codes[at] + self.coding.step(lift, lift + way, choice_of(self.coding.scale, aboard))]
