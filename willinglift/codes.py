"""Numbers that tell standings with the same wishes apart, and in which each move is a sum."""

from willinglift.choices import aboard_of, scale_of
from willinglift.houses import wanted_by


class Codes:
    """The codes of all standings that can be come to from one with these crowds if at most so many people are carried.

    A code has the floor of the lift as its lowest digit, and for each floor a block of digits that tells its crowd.
    """

    def __init__(self, crowds, most):
        self.places = len(crowds)
        self.totals = wanted_by(crowds)
        # Those who want one floor, and stand on one, can become so many more, and so many fewer.
        self.scale = scale_of({want: min(2 * most, many) for want, many in self.totals.items()})
        # Floors are told apart also where there is nobody.
        self.base = 2
        for _, _, size in self.scale:
            self.base = self.base * size
        # How much each unit of a choice counts on each floor; the lift is below them all.
        self.powers = [self.places]
        while len(self.powers) < self.places:
            self.powers.append(self.powers[-1] * self.base)
        # Of crowds that are greater than what is carried only the rest beyond these is told.
        self.lows = [{want: many - most for want, many in crowd.items() if many > most} for crowd in crowds]

    def code(self, lift, crowds):
        """The code of a standing."""
        code = lift
        for crowd, lows, power in zip(crowds, self.lows, self.powers):
            for want, unit, _ in self.scale:
                code += (crowd.get(want, 0) - lows.get(want, 0)) * unit * power
        return code

    def done(self):
        """The code of the standing in which all is done."""
        return self.code(0, [{place: self.totals.get(place, 0)} for place in range(self.places)])

    def place(self, code):
        """The floor of the lift."""
        return code % self.places

    def block(self, code, place):
        """What tells the crowd of a floor, and is the same where this is."""
        return code // self.powers[place] % self.base

    def crowd(self, code, place):
        """The dict from wants to how many stand on a floor."""
        left = self.block(code, place)
        crowd = {}
        for want, unit, size in self.scale:
            many = left // unit % size + self.lows[place].get(want, 0)
            if many > 0:
                crowd[want] = many
        return crowd

    def stride(self, place, other):
        """What a move from one floor to another adds to the code of a standing for each unit of its choice, besides
        what it adds for the lift."""
        return self.powers[other] - self.powers[place]

    def step(self, place, other, choice):
        """What a move with this choice adds to the code of a standing."""
        return other - place + choice * self.stride(place, other)

    def aboard(self, place, other, step):
        """Who is aboard a move that adds so much."""
        return aboard_of(self.scale, (step - other + place) // self.stride(place, other))
