"""A standing that goes on move by move, with its sums at hand, so that no move costs a look at everybody."""

from willinglift.checks import is_tuple_of, is_way
from willinglift.choices import is_boarding
from willinglift.houses import add_to, crowds_in, groups_in, unbounded
from willinglift.sums import bounds_back, bounds_out, is_within, number_of, tops_of, wanted_through


class Ride:
    """A standing that is changed by moves; crowds has for each floor the dict from wants to how many stand there."""

    def __init__(self, standing):
        self.house = standing.house
        self.lift = standing.lift
        self.crowds = crowds_in(standing.house.floors, standing.groups)
        self.up, self.down = wanted_through(standing)
        self.tops = tops_of(standing)

    def standing(self):
        """The Standing of now."""
        return unbounded(self.house, self.lift, groups_in(self.crowds))

    def is_done(self):
        """Whether the lift is on the ground floor and all are home."""
        return self.lift == 0 and sum(self.tops) == 0

    def is_left_above(self):
        """Whether somebody who is not home stands or wants above the lift."""
        return sum(self.tops[self.lift + 1:]) > 0

    def leads(self, way):
        """Whether a way leads to a floor of the house."""
        return 0 <= self.lift + way < self.house.floors

    def fits(self, thing):
        """Whether a thing is a move."""
        return is_fit(self.house, self.lift, self.crowds[self.lift], thing)

    def make(self, move):
        """Makes a move."""
        way, aboard = move
        for want, many in aboard:
            self.put(self.lift, want, -many)
            self.put(self.lift + way, want, many)
            self.count_carried(way, want, many)
        self.lift += way

    def take_in(self, group):
        """Lets a group join, or leave if it is of fewer than no people."""
        stand, want, many = group
        self.put(stand, want, many)
        for gap in range(stand, want):
            self.up[gap] += many
        for gap in range(want, stand):
            self.down[gap] += many

    def put(self, floor, want, many):
        """Puts so many more people on a floor who want another one, or fewer."""
        add_to(self.crowds[floor], want, many)
        if floor != want:
            self.tops[max(floor, want)] += many

    def count_carried(self, way, want, many):
        """Reckons what is wanted through the gap that people with this want are carried through."""
        gap = self.gap(way)
        if way == 1 and want > self.lift:
            self.up[gap] -= many
        elif way == 1:
            self.down[gap] += many
        elif want < self.lift:
            self.down[gap] -= many
        else:
            self.up[gap] += many

    def gap(self, way):
        """The gap that a move this way goes through."""
        return min(self.lift, self.lift + way)

    def number(self, gap):
        """The number of a gap."""
        left = sum(self.tops[gap + 1:]) > 0
        return number_of(self.house.room, self.up[gap], self.down[gap], left, self.lift > gap)

    def rest(self):
        """The sum of the numbers of all gaps."""
        return sum([self.number(gap) for gap in range(self.house.floors - 1)])

    def keens(self, way):
        """The list of the flags whether who wants each floor, and stands on the floor of the lift, wants this way."""
        return [(floor - self.lift) * way > 0 for floor in range(self.house.floors)]

    def keen(self, way):
        """How many on the floor of the lift want this way."""
        crowd = self.crowds[self.lift]
        return sum([many for want, many in crowd.items() if (want - self.lift) * way > 0])

    def needs(self, way):
        """The pair (least, most) as needs tells it, None if each move this way is silly, or there is none."""
        if not self.leads(way):
            return None
        gap = self.gap(way)
        number, up, down = self.number(gap), self.up[gap], self.down[gap]
        if way == 1:
            return bounds_out(self.house.room, number, up, down, self.keen(way))
        return bounds_back(self.house.room, number, up, down, self.keen(way), sum(self.tops[self.lift:]))

    def ways(self):
        """The ascending tuple of the ways on which some move is not silly."""
        return tuple([way for way in (-1, 1) if self.needs(way) is not None])

    def is_wise(self, move):
        """Whether a move is not silly."""
        way, aboard = move
        return is_within(self.needs(way), self.keens(way), aboard)

    def farthest(self, way):
        """Aboard for those who want this way, the farthest wishes first, as many as there is room for."""
        crowd = self.crowds[self.lift]
        room = self.house.room
        aboard = []
        for want in sorted(crowd)[::-way]:
            if (want - self.lift) * way > 0 and room > 0:
                many = min(room, crowd[want])
                aboard.append((want, many))
                room -= many
        return tuple(sorted(aboard))

    def willing(self):
        """A move that is not silly, None if all is done."""
        for way in (-1, 1):
            if self.needs(way) is not None:
                return way, self.farthest(way)
        return None


def is_fit(house, lift, crowd, thing):
    """Whether a thing is a move of a lift on a floor where this crowd stands."""
    return (is_tuple_of(2, thing) and is_way(thing[0]) and 0 <= lift + thing[0] < house.floors
            and is_boarding(house.room, crowd, thing[1]))
