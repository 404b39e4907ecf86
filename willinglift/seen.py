"""Plans of which only the ways were seen, and how many were aboard."""

from willinglift.checks import is_from, is_tuple_of, is_way
from willinglift.choices import choices_just
from willinglift.codes import Codes
from willinglift.errors import BadSeen, TooMany
from willinglift.houses import crowds_in
from willinglift.moves import MOST_LISTED, is_too_great

MOST_STANDINGS = 20000


def check_seen(seen):
    """Refuses what is no ways and numbers of people."""
    if not isinstance(seen, tuple):
        raise BadSeen(-1)
    for index, thing in enumerate(seen):
        if not is_tuple_of(2, thing) or not is_way(thing[0]) or not is_from(0, thing[1]):
            raise BadSeen(index)


def seen_plans(standing, seen):
    """How many plans have these ways, and so many people aboard."""
    check_seen(seen)
    watch = Watch(standing, seen)
    layer = {watch.first: 1}
    for index in range(len(seen)):
        layer = watch.behind(layer, index)
    return layer.get(watch.home, 0)


def seen_plan(standing, seen):
    """The least of these plans, None if there is none."""
    check_seen(seen)
    watch = Watch(standing, seen)
    layer = {watch.first: 1}
    layers = [[watch.first]]
    for index in range(len(seen)):
        layer = watch.behind(layer, index)
        layers.append(list(layer))
    if watch.home not in layer:
        return None
    # From these codes behind so many moves the others lead to the end.
    hopeful = {watch.home: True}
    hopes = [hopeful]
    for index in reversed(range(len(seen))):
        hopeful = watch.ahead(layers[index], index, hopeful)
        hopes.append(hopeful)
    return watch.least(hopes[::-1])


class Watch:
    """Follows the codes of all standings in which the lift can be behind what was seen.

    first is the code of the first standing, home that of the one in which all is done, None if it takes more people
    aboard; lifts has the floor of the lift ahead of each move.
    """

    def __init__(self, standing, seen):
        self.house = standing.house
        self.seen = seen
        self.lifts = [standing.lift]
        for way, _ in seen:
            self.lifts.append(self.lifts[-1] + way)
        crowds = crowds_in(self.house.floors, standing.groups)
        most = sum([min(many, self.house.room) for _, many in seen])
        self.codes = Codes(crowds, most)
        self.first = self.codes.code(standing.lift, crowds)
        away = sum([many for stand, want, many in standing.groups if stand != want])
        self.home = self.codes.done() if away <= most else None

    def steps(self, code, index, known):
        """What the moves that fit, from a standing with this code on, add to it.

        They are the same where the crowd on the floor of the lift is, by which those of this move are known.
        """
        lift = self.lifts[index]
        block = self.codes.block(code, lift)
        if block not in known:
            known[block] = self.found_steps(self.codes.crowd(code, lift), index)
        return known[block]

    def found_steps(self, crowd, index):
        """The same for a crowd on the floor of the lift, where it is not known."""
        lift = self.lifts[index]
        way, many = self.seen[index]
        if is_too_great(self.house, lift, crowd):
            raise TooMany(MOST_LISTED)
        if many > self.house.room or not 0 <= lift + way < self.house.floors:
            return []
        return [self.codes.step(lift, lift + way, choice) for choice in choices_just(crowd, self.codes.scale, many)]

    def behind(self, layer, index):
        """The dict from the codes behind a move to in how many ways they are come to, by that of those ahead of it."""
        known = {}
        later = {}
        for code, often in layer.items():
            for step in self.steps(code, index, known):
                later[code + step] = later.get(code + step, 0) + often
            if len(later) > MOST_STANDINGS:
                raise TooMany(MOST_STANDINGS)
        return later

    def ahead(self, layer, index, hopeful):
        """The dict of those codes of a row from which a move can lead to one of a dict."""
        known = {}
        return {code: True for code in layer if leads_to(code, self.steps(code, index, known), hopeful)}

    def least(self, hopes):
        """The least moves that lead from the first code on by one of each of these dicts."""
        moves = []
        code = self.first
        for index, (way, _) in enumerate(self.seen):
            lift = self.lifts[index]
            steps = [step for step in self.steps(code, index, {}) if code + step in hopes[index + 1]]
            aboard, added = min([(self.codes.aboard(lift, lift + way, step), step) for step in steps])
            moves.append((way, aboard))
            code += added
        return tuple(moves)


def leads_to(code, steps, hopeful):
    """Whether some step leads from a code to one of a dict."""
    for step in steps:
        if code + step in hopeful:
            return True
    return False
