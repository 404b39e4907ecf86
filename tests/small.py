"""What the tests share: small standings, slow ways to reckon that are told another way, and things of every kind."""

from collections import Counter
from itertools import combinations_with_replacement, permutations, product

from willinglift.houses import House, Standing, standing_of


def small_standings(floors, room, most):
    """All standings of a house with at most so many people."""
    house = House(floors, room)
    pairs = [(stand, want) for stand in range(floors) for want in range(floors)]
    for many in range(most + 1):
        for chosen in combinations_with_replacement(pairs, many):
            for lift in range(floors):
                yield standing_of(house, lift, [(stand, want, 1) for stand, want in chosen])


def slow_moves(standing):
    """All moves, ascending, from all tuples of numbers of those who stand here."""
    house = standing.house
    here = [(want, many) for stand, want, many in standing.groups if stand == standing.lift]
    found = []
    for way in (-1, 1):
        if 0 <= standing.lift + way < house.floors:
            for taken in product(*[range(many + 1) for _, many in here]):
                if sum(taken) <= house.room:
                    found.append((way, tuple((want, many) for (want, _), many in zip(here, taken) if many)))
    return sorted(found)


def slow_behind(standing, move):
    """The Standing behind a move."""
    way, aboard = move
    rows = list(standing.groups)
    for want, many in aboard:
        at = [(stand, wish) for stand, wish, _ in rows].index((standing.lift, want))
        stand, wish, there = rows[at]
        rows[at:at + 1] = [(stand, wish, there - many)] if there > many else []
        rows.append((standing.lift + way, want, many))
    return standing_of(standing.house, standing.lift + way, rows)


def key_of(standing):
    return standing.lift, standing.groups


def slow_rests(house, wants, end=0):
    """The dict from (lift, groups), for all standings with these wishes, to the least numbers of moves behind which
    all are home and the lift is on the end.

    Each move can be gone back, so that the search begins where all is done.
    """
    done = standing_of(house, end, [(want, want, 1) for want in wants])
    rests = {key_of(done): 0}
    layer = [done]
    while layer:
        later = []
        for standing in layer:
            for move in slow_moves(standing):
                other = slow_behind(standing, move)
                if key_of(other) not in rests:
                    rests[key_of(other)] = rests[key_of(standing)] + 1
                    later.append(other)
        layer = later
    return rests


def all_rests(floors, room, many):
    """The pairs of all standings of a house with so many people, and their least numbers of moves."""
    house = House(floors, room)
    for wants in combinations_with_replacement(range(floors), many):
        for (lift, groups), rest in slow_rests(house, wants).items():
            yield standing_of(house, lift, groups), rest


def slow_plans(standing, rests):
    """The list of all shortest plans, by a dict as of slow_rests."""
    rest = rests[key_of(standing)]
    if rest == 0:
        return [()]
    plans = []
    for move in slow_moves(standing):
        other = slow_behind(standing, move)
        if rests[key_of(other)] == rest - 1:
            plans.extend((move,) + plan for plan in slow_plans(other, rests))
    return plans


def great_standing(source, many, room, floors=40, groups=400):
    """A Standing with so many groups, each of at most so many people."""
    pairs = source.sample([(stand, want) for stand in range(floors) for want in range(floors)], groups)
    rows = tuple(sorted((stand, want, source.randint(1, many)) for stand, want in pairs))
    return Standing(House(floors, room), source.randrange(floors), rows)


def slow_wishes(house, stands, wants):
    """The list of all standings with so many who stand on each floor and so many who want it, ascending by groups."""
    standers = [floor for floor, many in enumerate(stands) for _ in range(many)]
    wishes = [floor for floor, many in enumerate(wants) for _ in range(many)]
    found = {tuple(sorted((*pair, many) for pair, many in Counter(zip(standers, order)).items()))
             for order in permutations(wishes)}
    return [Standing(house, 0, groups) for groups in sorted(found)]


def small_counts(floors, most):
    """All pairs of counts of a house with so many floors and at most so many people."""
    rows = [row for row in product(range(most + 1), repeat=floors) if sum(row) <= most]
    return [(stands, wants) for stands in rows for wants in rows if sum(stands) == sum(wants)]


def at_lift(standing, lift):
    """The same Standing with the lift on another floor."""
    return standing_of(standing.house, lift, standing.groups)


def nested(depth, kind):
    """Something nested so deep."""
    thing = 1
    for _ in range(depth):
        thing = {1: thing} if kind is dict else kind([thing])
    return thing


def a_function():
    """Nothing but a function."""


HOUSE = House(3, 2)
STANDING = Standing(HOUSE, 0, ((0, 2, 3), (1, 2, 1)))

STRANGERS = [
    None, True, False, Ellipsis, NotImplemented, -10 ** 39, 10 ** 39, "", "times", "1", "\n~", b"", b"times",
    bytearray(b"x"), memoryview(b"xy"), [], {}, {1: 2}, {"a": [1]}, range(3), slice(1, 2), object(), int, tuple,
    House, len, a_function, lambda: 1, ValueError("x"), iter([1]), zip([1], [2]), enumerate([1]),
    HOUSE, STANDING, [1, ()], [(1, ())], (True, ()), (1, []), (1, [(2, 1)]), (1, ((2, True),)), (1, ((True, 1),)),
    (1, ([2, 1],)), (1, {}), (1, ((2, 1, 1),)), (1, ((2,),)), (1, (2, 1)), (1, "ab"), ("1", ()), (1, (("2", 1),)),
    (1, ((None, 1),)), (1, ((2, None),)), (1, ((HOUSE, STANDING),)), (HOUSE, STANDING), (STANDING,), ((), (), ()),
    (b"times", 2, ((1, ()),)), (["times"], 2, ((1, ()),)), ("times", 2, [(1, ())]),
    nested(40, tuple), nested(40, list), nested(40, dict), (1, nested(38, tuple)), (nested(39, tuple), ()),
    ((1, nested(37, list)),), ((1, ((nested(36, tuple), 1),)),),
]

# Words that are no numbers: needless zeros, signs, too many digits, and so on.
NO_NUMBERS = ["", "00", "01", "-1", "+1", "-0", "1 ", " 1", "1\t", "\t1", "1.0", "1e3", "0x1", "1_0", "a", "1a", "one",
              "1,0", "1" * 32, "0" * 31, "~", "10 "]
