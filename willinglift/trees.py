"""Trees: houses whose floors fork."""

from willinglift.checks import is_between
from willinglift.errors import BadMove, BadStanding, BadTree
from willinglift.houses import MOST_ROOM, is_bounded_groups
from willinglift.moves import stop_of
from willinglift.walks import Walk, places_of

MOST_ROADS = 19


class Tree:
    """Places with roads between them that lead to place 0, and a lift with room for so many people."""

    def __init__(self, parents, room):
        if not is_parents(parents):
            raise BadTree("parents")
        if not is_between(1, MOST_ROOM, room):
            raise BadTree("room")
        self.parents = parents
        self.room = room

    def __eq__(self, other):
        return isinstance(other, Tree) and self.parents == other.parents and self.room == other.room


class TreeStanding:
    """The place of the lift, and the groups of people in a tree."""

    def __init__(self, tree, lift, groups):
        if not isinstance(tree, Tree):
            raise BadStanding("tree")
        if not is_between(0, len(tree.parents), lift):
            raise BadStanding("lift")
        if not is_bounded_groups(places_of(tree), groups):
            raise BadStanding("groups")
        self.tree = tree
        self.lift = lift
        self.groups = groups

    def __eq__(self, other):
        return (isinstance(other, TreeStanding) and self.tree == other.tree
                and self.lift == other.lift and self.groups == other.groups)


def is_parents(thing):
    """Whether a thing tells for each place but 0 one with a smaller number."""
    if not isinstance(thing, tuple) or not 1 <= len(thing) <= MOST_ROADS:
        return False
    return all([is_between(0, index, parent) for index, parent in enumerate(thing)])


def unbounded_tree(tree, lift, groups):
    """The TreeStanding of ascending groups, however great they are."""
    standing = TreeStanding(tree, lift, ())
    # The constructor's bounds do not hold here, so that groups are set behind it.
    standing.groups = groups
    return standing


def reached(walk):
    """The TreeStanding to which a Walk has come."""
    return unbounded_tree(walk.tree, walk.lift, walk.grouped())


def is_tree_move(standing, thing):
    """Whether a thing is a tree move of the standing."""
    return Walk(standing).fits(thing)


def tree_moved(standing, move):
    """The TreeStanding behind a tree move."""
    walk = Walk(standing)
    if not walk.fits(move):
        raise BadMove()
    walk.make(move)
    return reached(walk)


def is_tree_plan(standing, thing):
    """Whether a thing is tree moves behind which all is done."""
    walk = Walk(standing)
    return stop_of(walk, thing) is None and walk.is_done()
