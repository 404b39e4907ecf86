"""Who can be taken aboard: each choice is told by one number, so that many are soon listed and compared."""

from willinglift.checks import is_built_aboard


def scale_of(totals):
    """The rows (want, unit, size), of a dict from wants to numbers of people, by which choices are told.

    The number of a choice is the sum of how many of each want are taken, times its unit.
    """
    rows = []
    unit = 1
    for want in sorted(totals):
        size = totals[want] + 1
        rows.append((want, unit, size))
        unit = unit * size
    return rows


def aboard_of(scale, choice):
    """The ascending tuple of pairs (want, many) of a choice that is told by its number."""
    left = choice
    taken = []
    for want, unit, _ in scale[::-1]:
        if left >= unit:
            taken.append((want, left // unit))
            left = left % unit
    return tuple(taken[::-1])


def choice_of(scale, aboard):
    """The number of the choice with these aboard."""
    taken = {want: many for want, many in aboard}
    return sum([taken.get(want, 0) * unit for want, unit, _ in scale])


def is_boarding(room, crowd, thing):
    """Whether a thing tells who of a crowd can be aboard together."""
    if not is_built_aboard(thing) or sum([many for _, many in thing]) > room:
        return False
    return all([many <= crowd.get(want, 0) for want, many in thing])


def has_more(sizes, room, limit):
    """Whether there are more choices than the limit, of groups of these sizes."""
    ways = [1]
    for size in sizes:
        most = min(size, room)
        # Behind this the lists are short, however great the groups are.
        if most >= limit:
            return True
        ways = widened(ways, most, room)
        if sum(ways) > limit:
            return True
    return False


def widened(ways, most, room):
    """In how many ways so many are taken, with a group more of which at most so many can be."""
    wide = []
    window = 0
    for many in range(min(room, len(ways) - 1 + most) + 1):
        if many < len(ways):
            window += ways[many]
        if many > most:
            window -= ways[many - most - 1]
        wide.append(window)
    return wide


def choices_just(crowd, scale, many):
    """The numbers of the choices that take just so many of a crowd."""
    later = sum(list(crowd.values()))
    begun = [(0, many)]
    for want, unit, _ in scale:
        if want in crowd:
            later -= crowd[want]
            wide = [(choice + taken * unit, left - taken) for choice, left in begun
                    for taken in range(max(0, left - later), min(left, crowd[want]) + 1)]
            begun = wide
    return [choice for choice, left in begun if left == 0]


class Choices:
    """The choices from a crowd in which so many keen ones come at least, and so many others at most; keens tells of
    each want whether it is keen."""

    def __init__(self, crowd, scale, keens):
        rows = []
        later = 0
        for want, unit, _ in scale[::-1]:
            if want in crowd:
                rows.append((crowd[want], unit, keens[want], later))
                later += crowd[want] if keens[want] else 0
        self.rows = rows[::-1]
        self.found = []

    def listed(self, room, least, most):
        """The numbers of the choices, in the order of the tuples aboard that they tell."""
        self.found = []
        self.spread(0, 0, room, min(most, room - least), least)
        return self.found

    def spread(self, at, choice, room, others, lack):
        """Finds a choice and all that take some from the rows from at on besides.

        There is room for so many more, and for so many others among them; lack is how many keen ones are wanted yet.
        """
        if lack <= 0:
            self.found.append(choice)
        for k in range(at, len(self.rows)):
            many, unit, is_keen, later = self.rows[k]
            if is_keen:
                low, high = max(1, lack - later), min(many, room)
            elif lack > later:
                continue
            else:
                low, high = 1, min(many, room, others)
            if k == len(self.rows) - 1:
                self.found.extend(list(range(choice + low * unit, choice + high * unit + 1, unit)))
                continue
            for taken in range(low, high + 1):
                if is_keen:
                    self.spread(k + 1, choice + taken * unit, room - taken, others, lack - taken)
                else:
                    self.spread(k + 1, choice + taken * unit, room - taken, others - taken, lack)
