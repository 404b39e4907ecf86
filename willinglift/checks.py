"""Judges of things that may be of any kind, asked before anything is done with such a thing."""


def is_integer(thing):
    """Whether a thing is an integer; flags are none."""
    return isinstance(thing, int) and not isinstance(thing, bool)


def is_from(low, thing):
    """Whether a thing is an integer from low on."""
    return is_integer(thing) and thing >= low


def is_between(low, high, thing):
    """Whether a thing is an integer from low to high."""
    return is_integer(thing) and low <= thing <= high


def is_tuple_of(many, thing):
    """Whether a thing is a tuple of so many things."""
    return isinstance(thing, tuple) and len(thing) == many


def is_way(thing):
    """Whether a thing is a way, up or down."""
    return is_integer(thing) and thing in (1, -1)


def is_built_aboard(thing):
    """Whether a thing is an ascending tuple of pairs (want, many) with unlike wants, of any house."""
    if not isinstance(thing, tuple):
        return False
    lowest = 0
    for pair in thing:
        if not is_tuple_of(2, pair) or not is_from(lowest, pair[0]) or not is_from(1, pair[1]):
            return False
        lowest = pair[0] + 1
    return True


def is_built_move(thing):
    """Whether a thing is built as a move, which may be impossible everywhere."""
    return is_tuple_of(2, thing) and is_way(thing[0]) and is_built_aboard(thing[1])
