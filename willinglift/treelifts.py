"""A lift of a tree that is led live."""

from willinglift.errors import BadMove, NothingDone
from willinglift.trees import reached
from willinglift.walks import Walk


class TreeLift:
    """A lift that begins in a standing of a tree.

    Inside, deeds has for each move that was made where the lift was, the move, and whether it raised the sum.
    """

    def __init__(self, standing):
        self.walk = Walk(standing)
        self.deeds = []

    def go(self, place, aboard):
        """Makes a tree move."""
        move = (place, aboard)
        if not self.walk.fits(move):
            raise BadMove()
        self.deeds.append((self.walk.lift, move, not self.walk.is_wise(move)))
        self.walk.make(move)

    def now(self):
        """The TreeStanding of now."""
        return reached(self.walk)

    def gone(self):
        """The tuple of all moves that were made."""
        return tuple([move for _, move, _ in self.deeds])

    def silly(self):
        """How many of them raised the sum when they were made."""
        return len([move for _, move, is_silly in self.deeds if is_silly])

    def whole(self):
        """The sum of the numbers of all roads now."""
        return self.walk.whole()

    def ways(self):
        """The ascending tuple of the places to which some move lowers the sum now."""
        return self.walk.ways()

    def stuck(self):
        """Whether not all is done now, and each move raises the sum."""
        return self.walk.is_stuck()

    def back(self):
        """Takes back the last move."""
        if not self.deeds:
            raise NothingDone()
        place, move, _ = self.deeds.pop()
        _, aboard = move
        self.walk.make((place, aboard))

    def depth(self):
        """How many moves can be taken back."""
        return len(self.deeds)

    def copy(self):
        """Another TreeLift that goes on apart from here."""
        other = TreeLift(self.now())
        other.deeds = list(self.deeds)
        return other

    def trying(self, deed):
        """Calls a function with the TreeLift, and undoes all that it did."""
        kept = self.copy()
        try:
            return deed(self)
        finally:
            self.walk = kept.walk
            self.deeds = kept.deeds
