"""The numbers of gaps by counting, as the points about gaps tell them."""


def wanted_through(standing):
    """The pair of the lists of how many want up, and down, through each gap."""
    up = [0] * standing.house.floors
    down = [0] * standing.house.floors
    for stand, want, many in standing.groups:
        if stand < want:
            up[stand] += many
            up[want] -= many
        elif want < stand:
            down[want] += many
            down[stand] -= many
    return running(up), running(down)


def running(rises):
    """The list of the sums of the first, the first two and so on, but for all."""
    sums = []
    total = 0
    for rise in rises[:-1]:
        total += rise
        sums.append(total)
    return sums


def tops_of(standing):
    """The list of how many who are not home have each floor as the higher one of stand and want."""
    tops = [0] * standing.house.floors
    for stand, want, many in standing.groups:
        if stand != want:
            tops[max(stand, want)] += many
    return tops


def trips(many, room):
    """How many moves it takes for so many people."""
    return -(-many // room)


def number_of(room, up, down, left, is_above):
    """The number of a gap by what is wanted through it; is_above tells that the lift is above it."""
    if is_above:
        return 2 * max(trips(down, room), trips(up, room) + 1) - 1
    return 2 * max(trips(up, room), trips(down, room), 1 if left else 0)


def halves(number):
    """The pair of how often a gap with this number is gone through up and down."""
    return number // 2, (number + 1) // 2


def bounds_out(room, number, up, down, keen):
    """The pair (least, most) of how many keen ones have to be aboard a move that leads away from the ground through a
    gap with this number, and how many others may be; None if each such move is silly.

    So many of those who are here are keen: they want through the gap.
    """
    ups, _ = halves(number)
    return bounded(up - room * (ups - 1), room * ups - down, min(keen, room))


def bounds_back(room, number, up, down, keen, left):
    """The same of a move that leads toward the ground, if so many are left who are not home and stand or want beyond
    the gap."""
    _, downs = halves(number)
    if downs == 1 and left > keen:
        # Someone is left there, so that the lift has to come again.
        return None
    return bounded(down - room * (downs - 1), room * (downs - 1) - up, min(keen, room))


def bounded(least, most, there):
    """The pair of these bounds, the first one from 0 on, None if it is more than can be there."""
    return None if least > there else (max(0, least), most)


def is_within(bounds, keens, aboard):
    """Whether those aboard keep to such bounds; keens tells of each want whether it is keen."""
    if bounds is None:
        return False
    least, most = bounds
    forward = sum([many for want, many in aboard if keens[want]])
    return forward >= least and sum([many for _, many in aboard]) - forward <= most
