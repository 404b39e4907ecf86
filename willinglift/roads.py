"""Roads: what is wanted through them, how far this tells the moves of a tree, and the shortest plans by a search."""

from willinglift.checks import is_between
from willinglift.errors import BadFloor, BadRoad, TooMany
from willinglift.houses import is_floor
from willinglift.searches import shortest
from willinglift.silly import silly_places
from willinglift.trees import MOST_ROADS, Tree, TreeStanding, unbounded_tree
from willinglift.walks import Walk

MOST_PLACES = MOST_ROADS + 1


def check_road(standing, road):
    """Refuses what is no road of the tree."""
    if not is_between(1, len(standing.tree.parents), road):
        raise BadRoad()


def road_counts(standing, road):
    """The triple (out, back, left) of who wants into the branch of a road, and out of it, and whether somebody who is
    not home stands or wants in it."""
    check_road(standing, road)
    out, back, left = Walk(standing).counts(road)
    return out, back, left > 0


def road_number(standing, road):
    """How often a road is gone through at least."""
    check_road(standing, road)
    return Walk(standing).number(road)


def road_sum(standing):
    """The sum of the numbers of all roads; no plan is shorter."""
    return Walk(standing).whole()


def is_stuck(standing):
    """Whether not all is done, and each move raises the sum."""
    return isinstance(standing, TreeStanding) and Walk(standing).is_stuck()


def tree_ways(standing):
    """The ascending tuple of the places to which some move lowers the sum."""
    return Walk(standing).ways()


def tree_silly_in(standing, moves):
    """The list of the places of those of tree moves that raise the sum."""
    return silly_places(Walk(standing), moves)


def tree_rest(standing):
    """The least number of moves of a plan."""
    return len(shortest(standing))


def tree_plan(standing):
    """A plan of so many moves."""
    return shortest(standing)


def line_tree(standing, end):
    """The TreeStanding of a line of places, the floors of a house, with the lift that has to end on one of them."""
    if not is_floor(standing.house, end):
        raise BadFloor()
    if standing.house.floors > MOST_PLACES:
        raise TooMany(MOST_PLACES)
    above = list(range(end + 1, standing.house.floors))
    below = list(range(end))[::-1]
    floors = [end] + above + below
    # Both the first one above and the first one below lead to the end.
    parents = [0 if floor == end - 1 else place for place, floor in enumerate(floors[1:])]
    places = {floor: place for place, floor in enumerate(floors)}
    groups = [(places[stand], places[want], many) for stand, want, many in standing.groups]
    tree = Tree(tuple(parents), standing.house.room)
    return unbounded_tree(tree, places[standing.lift], tuple(sorted(groups)))
