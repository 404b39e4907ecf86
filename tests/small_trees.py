"""What the tests of trees share: drawn standings, and slow ways to reckon that are told another way."""

from itertools import product

from willinglift.trees import Tree, TreeStanding


def gathered_groups(rows):
    """The ascending tuple of groups of rows in any order, those of one pair added."""
    crowd = {}
    for stand, want, many in rows:
        crowd[stand, want] = crowd.get((stand, want), 0) + many
    return tuple(sorted((*pair, many) for pair, many in crowd.items() if many))


def line(places):
    return tuple(range(places - 1))


def star(places):
    return (0,) * (places - 1)


def drawn_parents(source, places):
    return tuple(source.randint(0, place) for place in range(places - 1))


def drawn_standing(source, places, room, groups, many):
    """A TreeStanding of a drawn tree, with so many groups at most, each of so many people at most."""
    parents = source.choice([line(places), star(places), drawn_parents(source, places),
                             drawn_parents(source, places)])
    rows = [(source.randrange(places), source.randrange(places), source.randint(1, many)) for _ in range(groups)]
    return TreeStanding(Tree(parents, room), source.randrange(places), gathered_groups(rows))


def tree_key(standing):
    return standing.lift, standing.groups


def is_tree_done(standing):
    return standing.lift == 0 and all(stand == want for stand, want, _ in standing.groups)


def way_down(parents, place):
    """The places on the way from a place to place 0, but for the last one."""
    return [] if place == 0 else [place] + way_down(parents, parents[place - 1])


def slow_counts(standing, road):
    """The triple (out, back, left) of a road."""
    parents = standing.tree.parents
    out, back, left = 0, 0, False
    for stand, want, many in standing.groups:
        stands, wants = road in way_down(parents, stand), road in way_down(parents, want)
        out += many * (wants and not stands)
        back += many * (stands and not wants)
        left = left or (stand != want and (stands or wants))
    return out, back, left


def slow_number(standing, road):
    """The number of a road: how often it is gone through is tried from 0 on."""
    out, back, left = slow_counts(standing, road)
    room = standing.tree.room
    if road in way_down(standing.tree.parents, standing.lift):
        backs = max(1, -(-back // room))
        while room * (backs - 1) < out:
            backs = max(backs + 1, out // room)
        return 2 * backs - 1
    outs = 1 if left else 0
    while room * outs < max(out, back):
        outs = max(outs + 1, max(out, back) // room)
    return 2 * outs


def slow_sum(standing):
    return sum(slow_number(standing, road) for road in range(1, len(standing.tree.parents) + 1))


def slow_tree_moves(standing):
    """All tree moves, ascending."""
    parents, lift = standing.tree.parents, standing.lift
    beside = {place + 1 for place, parent in enumerate(parents) if parent == lift}
    beside |= {parents[lift - 1]} if lift else set()
    here = [(want, many) for stand, want, many in standing.groups if stand == lift]
    found = []
    for place in beside:
        for taken in product(*[range(min(many, standing.tree.room) + 1) for _, many in here]):
            if sum(taken) <= standing.tree.room:
                found.append((place, tuple((want, many) for (want, _), many in zip(here, taken) if many)))
    return sorted(found)


def slow_tree_behind(standing, move):
    place, aboard = move
    rows = list(standing.groups)
    for want, many in aboard:
        rows += [(standing.lift, want, -many), (place, want, many)]
    return TreeStanding(standing.tree, place, gathered_groups(rows))


def slow_tree_rest(standing, limit):
    """The pair of the least number of moves of a plan, and how many standings can be come to; None for the first one
    if they are more than a limit."""
    seen = {tree_key(standing)}
    layer = [standing]
    moves = 0
    rest = None
    while layer:
        if rest is None and any(is_tree_done(there) for there in layer):
            rest = moves
        later = []
        for there in layer:
            for move in slow_tree_moves(there):
                other = slow_tree_behind(there, move)
                if tree_key(other) not in seen:
                    seen.add(tree_key(other))
                    later.append(other)
        layer = later
        moves += 1
        if len(seen) > limit:
            return None, len(seen)
    return rest, len(seen)
