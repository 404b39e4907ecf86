"""All ways to share out wishes among those who stand on the floors, where they are few."""

from willinglift.errors import TooMany

MOST_SHARES = 20000


def all_shares(stands, wants):
    """The ascending list of all tuples of groups of which so many stand on each floor, and so many want it.

    As many want in all as stand, so that each beginning of such groups leads to some at the end: where there are
    too many beginnings there are too many of these.
    """
    shares = [((), wants)]
    for stand, many in enumerate(stands):
        shares = with_floor(shares, stand, many)
    return [groups for groups, _ in shares]


def with_floor(shares, stand, many):
    """The pairs (groups, wants that are left) with those who stand on one floor more."""
    known = {}
    wide = []
    for groups, left in shares:
        if left not in known:
            known[left] = floor_shares(stand, many, left)
        if len(wide) + len(known[left]) > MOST_SHARES:
            raise TooMany(MOST_SHARES)
        wide.extend([(groups + row, later) for row, later in known[left]])
    return wide


def floor_shares(stand, many, wants):
    """The pairs (groups, wants that are left) of those who stand on one floor, ascending by their groups."""
    rows = [((), many)]
    later = sum(list(wants))
    for want, most in enumerate(wants):
        later -= most
        rows = with_want(rows, (stand, want), most, later)
    return [(row, left_of(wants, row)) for row, _ in rows]


def with_want(rows, pair, most, later):
    """The pairs (groups, people that are left) with at most so many of one pair (stand, want) more.

    Of those who are left then, so many can have later wishes.
    """
    stand, want = pair
    wide = []
    for row, left in rows:
        low, high = max(0, left - later), min(left, most)
        if len(wide) + high - low + 1 > MOST_SHARES:
            raise TooMany(MOST_SHARES)
        wide.extend([(row + ((stand, want, taken),), left - taken) for taken in range(max(1, low), high + 1)])
        # Groups without this pair have a later one in its place, and come behind.
        if low == 0:
            wide.append((row, left))
    return wide


def left_of(wants, row):
    """The tuple of the wishes that are left when these groups have theirs."""
    left = list(wants)
    for _, want, many in row:
        left[want] -= many
    return tuple(left)
