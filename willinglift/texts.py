"""Texts of standings, logs and prices, written and read."""

from willinglift.errors import BadLog, BadText
from willinglift.houses import House, Standing
from willinglift.logs import is_built_log
from willinglift.words import number_in, numbers_in, parts_of, row_in, standing_lines, standing_rows, written


def standing_text(standing):
    """The text of a standing."""
    return standing_lines("floors", (standing.house.floors,), standing, standing.house.room)


def read_standing(text):
    """The Standing that a text tells."""
    rows = standing_rows(text, "floors", False)
    house = House(rows[0][0], rows[1][0])
    return Standing(house, rows[2][0], tuple(rows[3:]))


def log_text(log):
    """The text of a log."""
    return " ".join(log_words(log))


def log_words(log):
    """The list of the words of a log."""
    words = []
    for part in log:
        if len(part) == 3:
            words.extend([str(part[1]) + "("] + log_words(part[2]) + [")"])
        else:
            words.append(move_word(part))
    return words


def move_word(move):
    """The word of a move."""
    way, aboard = move
    sign = "+" if way == 1 else "-"
    return sign + ",".join([str(want) + "x" + str(many) for want, many in aboard])


def read_log(text):
    """The log that a text tells."""
    words = parts_of(text, " ")
    log = logged([] if words == [""] else words)
    if not is_built_log(log):
        raise BadLog()
    return log


def logged(words):
    """The log that words tell, whatever its numbers are and however deep it is nested."""
    # Inside there are as many logs that are not ended, one in another, as there are rounds, and one more.
    logs = [[]]
    rounds = []
    for index, word in enumerate(words):
        if word == ")":
            if not rounds or not logs[-1]:
                raise BadText(index)
            log = tuple(logs.pop())
            logs[-1].append(("times", rounds.pop(), log))
        elif word.endswith("("):
            rounds.append(told(number_in(word[:-1]), index))
            logs.append([])
        else:
            logs[-1].append(told(move_in(word), index))
    if rounds:
        raise BadText(len(words))
    return tuple(logs[0])


def told(thing, index):
    """What a line or word tells, which is refused if it is None."""
    if thing is None:
        raise BadText(index)
    return thing


def move_in(word):
    """The move that a word tells, whoever is aboard, None if it tells none."""
    if word[:1] not in ("+", "-"):
        return None
    way = 1 if word[0] == "+" else -1
    if len(word) == 1:
        return way, ()
    aboard = [numbers_in(pair.split("x")) for pair in word[1:].split(",")]
    if not all([pair is not None and len(pair) == 2 for pair in aboard]):
        return None
    return way, tuple(aboard)


def prices_text(prices):
    """The text of prices."""
    return "\n".join([written(pair) for pair in prices])


def read_prices(text):
    """The tuple of the pairs of prices that a text tells."""
    return tuple([told(row_in(line, 2), index) for index, line in enumerate(parts_of(text, "\n"))])
