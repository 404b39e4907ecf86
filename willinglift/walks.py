"""A standing of a tree that goes on move by move."""

from willinglift.checks import is_integer, is_tuple_of
from willinglift.choices import is_boarding
from willinglift.houses import add_to, crowds_in, groups_in
from willinglift.sums import bounds_back, bounds_out, is_within, number_of


class Walk:
    """A tree standing that is changed by tree moves; crowds has for each place the dict from wants to how many stand
    there, and branches for each road the flags whether each place is in its branch (for 0, which is none: all are)."""

    def __init__(self, standing):
        self.tree = standing.tree
        self.lift = standing.lift
        self.crowds = crowds_in(places_of(standing.tree), standing.groups)
        self.branches = branches_of(standing.tree)

    def grouped(self):
        """The groups of now."""
        return groups_in(self.crowds)

    def is_done(self):
        """Whether the lift is at place 0 and all are home."""
        return self.lift == 0 and all([want == stand for stand, crowd in enumerate(self.crowds) for want in crowd])

    def leads(self, place):
        """Whether a place is at the other end of a road from the lift."""
        low, high = min(self.lift, place), max(self.lift, place)
        return low < high and self.tree.parents[high - 1] == low

    def beside(self):
        """The ascending list of these places."""
        return [place for place in range(len(self.crowds)) if self.leads(place)]

    def fits(self, thing):
        """Whether a thing is a tree move."""
        if not is_tuple_of(2, thing) or not is_integer(thing[0]) or thing[0] not in self.beside():
            return False
        return is_boarding(self.tree.room, self.crowds[self.lift], thing[1])

    def make(self, move):
        """Makes a tree move."""
        place, aboard = move
        for want, many in aboard:
            add_to(self.crowds[self.lift], want, -many)
            add_to(self.crowds[place], want, many)
        self.lift = place

    def counts(self, road):
        """The triple of how many want into the branch of a road, how many want out, and how many who are not home
        stand or want in it."""
        inside = self.branches[road]
        out, back, among = 0, 0, 0
        for stand, crowd in enumerate(self.crowds):
            for want, many in crowd.items():
                if inside[stand] and inside[want]:
                    among += many if stand != want else 0
                elif inside[want]:
                    out += many
                elif inside[stand]:
                    back += many
        return out, back, out + back + among

    def number(self, road):
        """The number of a road."""
        out, back, left = self.counts(road)
        return number_of(self.tree.room, out, back, left > 0, self.branches[road][self.lift])

    def whole(self):
        """The sum of the numbers of all roads."""
        return sum([self.number(road) for road in range(1, len(self.crowds))])

    def keens(self, place):
        """The list of the flags whether who wants each place, and stands where the lift is, wants through the road to
        a place beside."""
        inside = self.branches[max(self.lift, place)]
        return [flag == inside[place] for flag in inside]

    def needs(self, place):
        """The pair (least, most) of how many keen ones have to be aboard a move to a place beside, and how many
        others may be; None if each such move raises the sum."""
        road = max(self.lift, place)
        keens = self.keens(place)
        keen = sum([many for want, many in self.crowds[self.lift].items() if keens[want]])
        room = self.tree.room
        out, back, left = self.counts(road)
        number = number_of(room, out, back, left > 0, place < road)
        if place == road:
            return bounds_out(room, number, out, back, keen)
        return bounds_back(room, number, out, back, keen, left)

    def ways(self):
        """The ascending tuple of the places beside to which some move lowers the sum."""
        return tuple([place for place in self.beside() if self.needs(place) is not None])

    def is_wise(self, move):
        """Whether a tree move lowers the sum."""
        place, aboard = move
        return is_within(self.needs(place), self.keens(place), aboard)

    def is_stuck(self):
        """Whether not all is done, and each move raises the sum."""
        return not self.is_done() and not self.ways()


def places_of(tree):
    """How many places a tree has."""
    return len(tree.parents) + 1


def branches_of(tree):
    """The list that has for each road the list of the flags whether each place is in its branch; for 0 all are."""
    branches = []
    for road in range(places_of(tree)):
        inside = [place == road for place in range(places_of(tree))]
        # Who leads to a place has a smaller number.
        for place, parent in enumerate(tree.parents):
            inside[place + 1] = inside[place + 1] or inside[parent]
        branches.append(inside)
    return branches
