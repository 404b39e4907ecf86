"""Lifts that begin on the ground and end anywhere: the same as lifts that begin there, backward."""

from willinglift.errors import BadFloor
from willinglift.gaps import rest
from willinglift.grounds import check_ground
from willinglift.houses import gathered, is_floor
from willinglift.plans import plan


def turned(standing):
    """The Standing in which all stand where they wanted, and want where they stood."""
    return turned_at(standing, standing.lift)


def turned_at(standing, lift):
    """The same, with the lift on a floor."""
    crowd = {(want, stand): many for stand, want, many in standing.groups}
    return gathered(standing.house, lift, crowd)


def turned_to(standing, end):
    """The turned standing with the lift on the floor where it has to end; refuses what is wrong."""
    check_ground(standing)
    if not is_floor(standing.house, end):
        raise BadFloor()
    return turned_at(standing, end)


def rest_to(standing, end):
    """The least number of moves behind which all are home and the lift is on a floor."""
    return rest(turned_to(standing, end))


def plan_to(standing, end):
    """Such moves, as few as these."""
    there = turned_to(standing, end)
    return Backward(there).moves(plan(there))


class Backward:
    """People of a standing who are told apart by where they stood at first, which they want backward.

    crowds has for each pair (floor, want) the dict from these floors to how many stand there.
    """

    def __init__(self, standing):
        self.lift = standing.lift
        self.crowds = {(stand, want): {stand: many} for stand, want, many in standing.groups}

    def moves(self, forward):
        """The moves that lead back from behind moves to the standing of now."""
        back = []
        for way, aboard in forward:
            back.append((-way, self.carry(way, aboard)))
            self.lift += way
        return tuple(back[::-1])

    def carry(self, way, aboard):
        """Carries those aboard, and tells who they are backward."""
        carried = {}
        for want, many in aboard:
            here = self.crowds[(self.lift, want)]
            there = self.crowds.setdefault((self.lift + way, want), {})
            left = many
            for begin in sorted(here):
                taken = min(left, here[begin])
                if taken > 0:
                    here[begin] -= taken
                    there[begin] = there.get(begin, 0) + taken
                    carried[begin] = carried.get(begin, 0) + taken
                    left -= taken
        return tuple(sorted(carried.items()))
