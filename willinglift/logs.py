"""Logs: moves, and rounds of moves that are made enormously often."""

from willinglift.checks import is_between, is_built_move, is_tuple_of
from willinglift.errors import BadLog, TooMany
from willinglift.houses import changed, crowd_of
from willinglift.moves import carried_by

MOST_ROUNDS = 10 ** 30
MOST_DEPTH = 3
MOST_WRITTEN = 200
MOST_MADE = 5000


class Stretch:
    """What a part of a log does: where the lift is behind it, how many more each pair (stand, want) is then,
    how many each has to be ahead of it, so that all its moves can be made, and how often each pair (gap, way)
    of a gap that is gone through and a way comes."""

    def __init__(self, lift):
        self.lift = lift
        self.changes = {}
        self.asks = {}
        self.passes = {}

    def follow(self, part):
        """Puts a part behind this one."""
        self.lift = part.lift
        for pair, many in part.asks.items():
            self.asks[pair] = max(self.asks.get(pair, 0), many - self.changes.get(pair, 0))
        for pair, many in part.changes.items():
            self.changes[pair] = self.changes.get(pair, 0) + many
        for step, many in part.passes.items():
            self.passes[step] = self.passes.get(step, 0) + many


def single(lift, move):
    """The Stretch of one move from a floor on."""
    way, aboard = move
    step = Stretch(lift + way)
    step.changes = carried_by(lift, way, aboard)
    step.asks = {(lift, want): many for want, many in aboard}
    step.passes = {(min(lift, lift + way), way): 1}
    return step


def repeated(once, many):
    """The Stretch of so many rounds of a part that leads back to the floor where it begins."""
    rounds = Stretch(once.lift)
    rounds.changes = {pair: many * rise for pair, rise in once.changes.items()}
    # A pair that shrinks with each round has to last until the last one.
    rounds.asks = {pair: ask + (many - 1) * max(0, -once.changes.get(pair, 0)) for pair, ask in once.asks.items()}
    rounds.passes = {step: many * often for step, often in once.passes.items()}
    return rounds


def is_rounds(thing):
    """Whether a thing is built as rounds, whatever their log is."""
    if not is_tuple_of(3, thing) or not isinstance(thing[0], str) or thing[0] != "times":
        return False
    return is_between(1, MOST_ROUNDS, thing[1]) and isinstance(thing[2], tuple) and len(thing[2]) > 0


def written_in(thing, depth):
    """How many moves are written in a log nested at most so deep, None for what is none."""
    if not isinstance(thing, tuple):
        return None
    written = 0
    for part in thing:
        if is_built_move(part):
            written += 1
        elif depth > 0 and is_rounds(part):
            inner = written_in(part[2], depth - 1)
            if inner is None:
                return None
            written += inner
        else:
            return None
        if written > MOST_WRITTEN:
            return None
    return written


def is_built_log(thing):
    """Whether a thing is built as a log, whose moves may be impossible."""
    return written_in(thing, MOST_DEPTH) is not None


class Tracer:
    """Finds what a log and the logs in it do, each of them once for each floor it begins on."""

    def __init__(self, house):
        self.house = house
        self.known = {}

    def stretch(self, path, lift, log):
        """The Stretch of a log from a floor on, None if the lift would leave the house or hold too many.

        The path, the places in the logs around it, tells it from others.
        """
        if (path, lift) not in self.known:
            self.known[(path, lift)] = self.traced(path, lift, log)
        return self.known[(path, lift)]

    def traced(self, path, lift, log):
        """The same, where it is not known."""
        whole = Stretch(lift)
        for at, part in enumerate(log):
            if len(part) == 3:
                is_right = self.run_rounds(path + (at,), whole, part[1], part[2])
            else:
                is_right = self.run_move(whole, part)
            if not is_right:
                return None
        return whole

    def run_move(self, whole, move):
        """Puts a move behind a Stretch, and tells whether the house lets it."""
        way, aboard = move
        lift = whole.lift
        if not 0 <= lift + way < self.house.floors or sum([many for _, many in aboard]) > self.house.room:
            return False
        whole.follow(single(lift, move))
        return True

    def run_rounds(self, path, whole, many, log):
        """Puts rounds behind a Stretch, and tells whether the house lets them."""
        # Rounds that lead to another floor soon leave the house, so that this does not go on for long.
        for _ in range(many):
            once = self.stretch(path, whole.lift, log)
            if once is None:
                return False
            if once.lift == whole.lift:
                # All rounds of a log lead as far, so that this is the first one.
                whole.follow(repeated(once, many))
                return True
            whole.follow(once)
        return True


def run_of(standing, thing):
    """The Stretch of a log all whose moves can be made, None for what is none."""
    if not is_built_log(thing):
        return None
    stretch = Tracer(standing.house).stretch((), standing.lift, thing)
    if stretch is None:
        return None
    crowd = crowd_of(standing)
    if any([many > crowd.get(pair, 0) for pair, many in stretch.asks.items()]):
        return None
    return stretch


def is_log(standing, thing):
    """Whether a thing is a log all whose moves can be made, one behind another."""
    return run_of(standing, thing) is not None


def behind_log(standing, log):
    """The Standing behind a log."""
    stretch = run_of(standing, log)
    if stretch is None:
        raise BadLog()
    return changed(standing, stretch.lift, stretch.changes)


def length_of(log):
    """How many moves of a log are made."""
    if not is_built_log(log):
        raise BadLog()
    return made_in(log)


def made_in(log):
    """How many moves are made of what is known to be built as a log."""
    return sum([part[1] * made_in(part[2]) if len(part) == 3 else 1 for part in log])


def written_out(log):
    """The tuple of the moves of a log."""
    if length_of(log) > MOST_MADE:
        raise TooMany(MOST_MADE)
    return tuple(spelled(log))


def spelled(log):
    """The list of the moves of what is known to be built as a log."""
    moves = []
    for part in log:
        if len(part) == 3:
            moves.extend(spelled(part[2]) * part[1])
        else:
            moves.append(part)
    return moves


def as_log(moves):
    """The log in which like moves one behind another are one move in rounds."""
    if not isinstance(moves, tuple) or not all([is_built_move(move) for move in moves]):
        raise BadLog()
    runs = []
    for move in moves:
        if runs and runs[-1][1] == move:
            runs[-1] = (runs[-1][0] + 1, move)
        else:
            runs.append((1, move))
    if len(runs) > MOST_WRITTEN:
        raise TooMany(MOST_WRITTEN)
    return tuple([("times", many, (move,)) if many > 1 else move for many, move in runs])
