"""A search for the shortest tree plans."""

from math import comb

from willinglift.choices import Choices
from willinglift.codes import Codes
from willinglift.errors import TooMany
from willinglift.houses import wanted_by
from willinglift.walks import Walk

MOST_STANDINGS = 20000


def check_standings(walk):
    """Refuses a Walk from which too many standings can be come to."""
    places = len(walk.crowds)
    many = places
    # Each of the people can be carried to each place, and those with the same want are not told apart.
    for people in wanted_by(walk.crowds).values():
        many = many * comb(people + places - 1, places - 1)
    if many > MOST_STANDINGS:
        raise TooMany(MOST_STANDINGS)


def shortest(standing):
    """A tree plan of as few moves as there are."""
    walk = Walk(standing)
    check_standings(walk)
    search = Search(walk)
    return search.plan()


class Search:
    """Finds codes of standings in layers: in the first one those that are come to by moves that lower the sum alone,
    in the next one those that take one move that raises it, and so on.

    As each move changes the sum by one, a plan is the shorter the fewer moves of it raise the sum. came has for each
    code that was found the one ahead of it, None for the first one.
    """

    def __init__(self, walk):
        self.walk = walk
        self.codes = Codes(walk.crowds, sum(list(wanted_by(walk.crowds).values())))
        first = self.codes.code(walk.lift, walk.crowds)
        self.home = self.codes.done()
        self.came = {first: None}
        self.layer = [first]

    def plan(self):
        """The tree moves that lead from the first code to the last one."""
        self.fall()
        while self.home not in self.came:
            self.rise()
            self.fall()
        path = [self.home]
        while self.came[path[-1]] is not None:
            path.append(self.came[path[-1]])
        return tuple([self.move_to(code, ahead) for ahead, code in zip(path, path[1:])][::-1])

    def move_to(self, code, other):
        """The tree move that leads from one code to another."""
        place, there = self.codes.place(code), self.codes.place(other)
        return there, self.codes.aboard(place, there, other - code)

    def fall(self):
        """Puts into the layer all that is come to from it by moves that lower the sum, until all is done."""
        left = list(self.layer)
        while left and self.home not in self.came:
            later = self.reach(left.pop(), False)
            self.layer.extend(later)
            left.extend(later)

    def rise(self):
        """Begins the next layer with all that is come to from this one by one move more."""
        risen = []
        for code in self.layer:
            risen.extend(self.reach(code, True))
        self.layer = risen

    def reach(self, code, is_rising):
        """The codes, not found before, behind the moves from one: all of them, or those that lower the sum."""
        walk = self.walk
        walk.lift = self.codes.place(code)
        walk.crowds = [self.codes.crowd(code, place) for place in range(len(walk.crowds))]
        later = []
        for place in walk.beside():
            bounds = (0, walk.tree.room) if is_rising else walk.needs(place)
            if bounds is not None:
                later.extend(self.reach_at(code, place, bounds))
        return later

    def reach_at(self, code, place, bounds):
        """The same behind the moves to one place that keep to such bounds."""
        least, most = bounds
        walk = self.walk
        choices = Choices(walk.crowds[walk.lift], self.codes.scale, walk.keens(place))
        base = code + self.codes.step(walk.lift, place, 0)
        stride = self.codes.stride(walk.lift, place)
        later = []
        for choice in choices.listed(walk.tree.room, least, most):
            other = base + choice * stride
            if other not in self.came:
                self.came[other] = code
                later.append(other)
        return later
