"""How many people a floor holds in plans without silly moves, at the most and at the least."""

from willinglift.errors import BadFloor
from willinglift.houses import held_in, is_floor
from willinglift.webs import Web


def most_held_ever(standing):
    """The tuple of the greatest number of people who stand on each floor at any time in any of these plans."""
    most = held_in(standing)
    for other in Web(standing).standings:
        most = [max(high, many) for high, many in zip(most, held_in(other))]
    return tuple(most)


def least_peak(standing, floor):
    """The pair of the least that most_held of a floor is in such a plan, and such a plan."""
    if not is_floor(standing.house, floor):
        raise BadFloor()
    web = Web(standing)
    peaks = [held_in(other)[floor] for other in web.standings]
    # Those that stand behind one have greater numbers, and are reckoned ahead of it.
    for at in reversed(range(len(peaks))):
        if web.nexts[at]:
            peaks[at] = max(peaks[at], min([peaks[other] for other in web.nexts[at]]))
    path = [0]
    while web.nexts[path[-1]]:
        path.append(min([(peaks[other], other) for other in web.nexts[path[-1]]])[1])
    return peaks[0], web.moves_along(path)
