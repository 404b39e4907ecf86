"""Where people are on the way: how many a floor holds, and how often people are set down amid their way."""

from willinglift.errors import TooMany
from willinglift.houses import held_in
from willinglift.moves import check_moves
from willinglift.webs import MOST_STANDINGS, Web


def most_held(standing, moves):
    """The tuple of the greatest number of people who stand on each floor at any time."""
    check_moves(standing, moves)
    held = held_in(standing)
    most = list(held)
    lift = standing.lift
    for way, aboard in moves:
        carried = sum([many for _, many in aboard])
        held[lift] -= carried
        lift += way
        held[lift] += carried
        most[lift] = max(most[lift], held[lift])
    return tuple(most)


def set_down(standing, moves):
    """How many settings down there are amid the way."""
    check_moves(standing, moves)
    lift = standing.lift
    aboards = [aboard for _, aboard in moves] + [()]
    total = 0
    for index, (way, aboard) in enumerate(moves):
        lift += way
        total += left_behind(lift, aboard, aboards[index + 1])
    return total


def left_behind(lift, aboard, later):
    """How many of those aboard a move that leads to a floor are set down there amid the way, if later the next ones
    are aboard."""
    kept = {want: many for want, many in later}
    return sum([max(0, many - kept.get(want, 0)) for want, many in aboard if want != lift])


def fewest_set_down(standing):
    """The pair of the fewest settings down of a plan without silly moves, and such a plan."""
    web = Web(standing)
    arrivals = Arrivals(web)
    for at in range(len(web.standings)):
        arrivals.lead_on(at)
    return arrivals.best()


class Arrivals:
    """Plans without silly moves that come to each standing of a web, with the fewest settings down of each kind.

    found has for each standing the dict from who was aboard the move to it, nobody for the first standing, to the
    triple of the fewest settings down ahead of it, and the standing and who was aboard from which this came.
    """

    def __init__(self, web):
        self.web = web
        self.found = [{} for _ in web.standings]
        self.found[0][()] = (0, None, None)
        self.pairs = 1

    def lead_on(self, at):
        """Leads the plans that come to a standing on by one move; all that come to it have to be found."""
        ranked = sorted([(told[0], ahead) for ahead, told in self.found[at].items()])
        lift = self.web.standings[at].lift
        for other in self.web.nexts[at]:
            _, aboard = self.web.move_to(at, other)
            self.enter(other, aboard, at, ranked_best(ranked, lift, aboard))

    def enter(self, other, aboard, at, best):
        """Keeps for a standing and who was aboard the move to it the best that was found."""
        number, ahead = best
        if aboard not in self.found[other]:
            self.pairs += 1
            if self.pairs > MOST_STANDINGS:
                raise TooMany(MOST_STANDINGS)
        elif self.found[other][aboard][0] <= number:
            return
        self.found[other][aboard] = (number, at, ahead)

    def best(self):
        """The pair of the fewest settings down until all is done, and a plan with them."""
        # The last one is that where all is done, so that nobody is set down amid the way behind the last move.
        at = len(self.found) - 1
        number, aboard = min([(told[0], ahead) for ahead, told in self.found[at].items()])
        path = [at]
        while path[-1] != 0:
            _, at, aboard = self.found[at][aboard]
            path.append(at)
        return number, self.web.moves_along(path[::-1])


def ranked_best(ranked, lift, aboard):
    """The pair of the fewest settings down, and who was aboard, of rows of these, the fewest first, if these are
    aboard the next move."""
    best = None
    for number, ahead in ranked:
        if best is not None and number >= best[0]:
            return best
        whole = number + left_behind(lift, ahead, aboard)
        if best is None or whole < best[0]:
            best = (whole, ahead)
    return best
