"""All plans without silly moves: how many there are, and which is which."""

from willinglift.checks import is_between
from willinglift.errors import BadFloor, BadNumber, NoPlan
from willinglift.houses import is_floor
from willinglift.moves import is_plan
from willinglift.silly import silly_in
from willinglift.webs import Web


def tails_of(web):
    """The list of how many plans lead on from each standing of a web."""
    many = len(web.standings)
    tails = [1] * many
    for at in reversed(range(many)):
        if web.nexts[at]:
            tails[at] = sum([tails[other] for other in web.nexts[at]])
    return tails


def many_plans(standing):
    """The number of all plans without silly moves."""
    return tails_of(Web(standing))[0]


def plan_at(standing, index):
    """The plan without silly moves that has this number among them, as they are ascending."""
    web = Web(standing)
    tails = tails_of(web)
    if not is_between(0, tails[0] - 1, index):
        raise BadNumber()
    moves = []
    at = 0
    left = index
    while web.nexts[at]:
        place = 0
        while left >= tails[web.nexts[at][place]]:
            left -= tails[web.nexts[at][place]]
            place += 1
        other = web.nexts[at][place]
        moves.append(web.move_to(at, other))
        at = other
    return tuple(moves)


def plan_index(standing, plan):
    """The number of a plan without silly moves."""
    web = Web(standing)
    if not is_plan(standing, plan) or silly_in(standing, plan):
        raise NoPlan()
    tails = tails_of(web)
    index = 0
    at = 0
    for move in plan:
        other = web.place_behind(at, move)
        ahead = web.nexts[at][:web.nexts[at].index(other)]
        index += sum([tails[one] for one in ahead])
        at = other
    return index


def first_moves(standing):
    """The ascending list of the pairs (move, number) of with which moves how many of these plans begin."""
    web = Web(standing)
    tails = tails_of(web)
    return [(web.move_to(0, other), tails[other]) for other in web.nexts[0]]


def settled_tails(web, floor):
    """The list of how many plans lead on from each standing so that all who want a floor stand there all the time."""
    many = len(web.standings)
    tails = [0] * many
    for at in reversed(range(many)):
        if is_settled(web.standings[at], floor):
            tails[at] = sum([tails[other] for other in web.nexts[at]]) if web.nexts[at] else 1
    return tails


def is_settled(standing, floor):
    """Whether all who want a floor stand there."""
    return all([stand == want for stand, want, _ in standing.groups if want == floor])


def heads_of(web):
    """The list of in how many ways each standing of a web comes up."""
    many = len(web.standings)
    heads = [0] * many
    heads[0] = 1
    for at in range(many):
        for other in web.nexts[at]:
            heads[other] += heads[at]
    return heads


def settling(web, floor):
    """The list of the numbers of the standings, not settled themselves, behind which it can be settled for good."""
    tails = settled_tails(web, floor)
    return [at for at in range(len(tails))
            if not is_settled(web.standings[at], floor) and any([tails[other] for other in web.nexts[at]])]


def settled_after(standing, floor):
    """The ascending list of the pairs (many, number): behind how many moves all who want a floor stand there for good,
    and in how many plans without silly moves it is so."""
    if not is_floor(standing.house, floor):
        raise BadFloor()
    web = Web(standing)
    tails = settled_tails(web, floor)
    heads = heads_of(web)
    found = {0: tails[0]} if tails[0] else {}
    for at in settling(web, floor):
        many = web.depths[at] + 1
        plans = heads[at] * sum([tails[other] for other in web.nexts[at]])
        found[many] = found.get(many, 0) + plans
    return [(many, found[many]) for many in sorted(found)]


def soonest_settled(standing, floor):
    """The pair (many, plan) of the least of these, and a plan of which it is so."""
    if not is_floor(standing.house, floor):
        raise BadFloor()
    web = Web(standing)
    tails = settled_tails(web, floor)
    if tails[0]:
        return 0, settled_plan(web, [0], tails)
    # The standings are numbered by how many moves they stand behind, so that the first of these is the soonest.
    last = settling(web, floor)[0]
    return web.depths[last] + 1, settled_plan(web, trail_to(web, last), tails)


def trail_to(web, last):
    """The list of the numbers of standings that lead to one."""
    trail = [last]
    while trail[-1] != 0:
        trail.append(web.came[trail[-1]])
    return trail[::-1]


def settled_plan(web, trail, tails):
    """The plan that goes by these standings, and then by such as are settled for good."""
    path = list(trail)
    while web.nexts[path[-1]]:
        path.append([other for other in web.nexts[path[-1]] if tails[other]][0])
    return web.moves_along(path)
