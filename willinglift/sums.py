"""The numbers of gaps by counting, as the points about gaps tell them."""


def wanted_through(standing):
    """The pair of the lists of how many want up, and down, through each gap."""
    up = [0] * standing.house.floors
    down = [0] * standing.house.floors
    for stand, want, many in standing.groups:
        if stand < want:
            up[stand] += many
            up[want] -= many
        elif want < stand:
            down[want] += many
            down[stand] -= many
    return running(up), running(down)


def running(rises):
    """The list of the sums of the first, the first two and so on, but for all."""
    sums = []
    total = 0
    for rise in rises[:-1]:
        total += rise
        sums.append(total)
    return sums


def tops_of(standing):
    """The list of how many who are not home have each floor as the higher one of stand and want."""
    tops = [0] * standing.house.floors
    for stand, want, many in standing.groups:
        if stand != want:
            tops[max(stand, want)] += many
    return tops


def trips(many, room):
    """How many moves it takes for so many people."""
    return -(-many // room)


def number_of(room, up, down, left, is_above):
    """The number of a gap by what is wanted through it; is_above tells that the lift is above it."""
    if is_above:
        return 2 * max(trips(down, room), trips(up, room) + 1) - 1
    return 2 * max(trips(up, room), trips(down, room), 1 if left else 0)


def halves(number):
    """The pair of how often a gap with this number is gone through up and down."""
    return number // 2, (number + 1) // 2
