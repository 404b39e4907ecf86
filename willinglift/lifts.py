"""A lift that is led live: moves are made and groups join one by one, and are taken back."""

from willinglift.errors import BadMove, NothingDone
from willinglift.news import check_group
from willinglift.plans import MOST_PLANNED, finished
from willinglift.rides import Ride


class Lift:
    """A lift that begins in a standing.

    Inside, deeds has for each deed that can be taken back how many moves, and how many silly ones, were made ahead of
    it, and the group that joined by it or None.
    """

    def __init__(self, standing):
        self.ride = Ride(standing)
        self.made = []
        self.many_silly = 0
        self.deeds = []

    def go(self, way, aboard):
        """Makes a move."""
        move = (way, aboard)
        if not self.ride.fits(move):
            raise BadMove()
        self.deeds.append((len(self.made), self.many_silly, None))
        if not self.ride.is_wise(move):
            self.many_silly += 1
        self.ride.make(move)
        self.made.append(move)

    def join(self, group):
        """Lets a group join."""
        check_group(self.ride.house, group)
        self.deeds.append((len(self.made), self.many_silly, group))
        self.ride.take_in(group)

    def finish(self):
        """Makes a plan without silly moves, as one deed, and gives it."""
        ahead = len(self.made)
        plan = tuple(finished(self.ride, MOST_PLANNED))
        self.deeds.append((ahead, self.many_silly, None))
        self.made.extend(plan)
        return plan

    def now(self):
        """The Standing of now."""
        return self.ride.standing()

    def gone(self):
        """The tuple of all moves that were made."""
        return tuple(self.made)

    def silly(self):
        """How many of them were silly when they were made."""
        return self.many_silly

    def rest(self):
        """The least number of moves of a plan from now on."""
        return self.ride.rest()

    def ways(self):
        """The ascending tuple of the ways on which some move is not silly now."""
        return self.ride.ways()

    def saved(self):
        """By how much the moves and those that are left are fewer than were told at first, and as groups joined."""
        # Each silly move costs itself, and one more that makes up for it.
        return -2 * self.many_silly

    def back(self):
        """Takes back the last deed."""
        if not self.deeds:
            raise NothingDone()
        ahead, self.many_silly, group = self.deeds.pop()
        while len(self.made) > ahead:
            way, aboard = self.made.pop()
            self.ride.make((-way, aboard))
        if group is not None:
            stand, want, many = group
            self.ride.take_in((stand, want, -many))

    def depth(self):
        """How many deeds can be taken back."""
        return len(self.deeds)

    def copy(self):
        """Another Lift that goes on apart from here."""
        other = Lift(self.now())
        other.made = list(self.made)
        other.many_silly = self.many_silly
        other.deeds = list(self.deeds)
        return other

    def trying(self, deed):
        """Calls a function with the Lift, and undoes all that it did."""
        kept = self.copy()
        try:
            return deed(self)
        finally:
            self.ride = kept.ride
            self.made = kept.made
            self.many_silly = kept.many_silly
            self.deeds = kept.deeds
