"""A desk that works by lines."""

from willinglift.ends import rest_to
from willinglift.errors import NoLine, NoName, NothingDone
from willinglift.gaps import numbers, rest
from willinglift.logs import behind_log
from willinglift.news import joined
from willinglift.plans import plan
from willinglift.prices import least_bill
from willinglift.rooms import least_room
from willinglift.rules import swept
from willinglift.silly import many_silly, silly_in
from willinglift.texts import log_text, read_log, read_prices, read_standing, standing_text
from willinglift.wise import needs, ways
from willinglift.words import number_in, written

MOST_LETTERS = 8
LETTERS = "abcdefghijklmnopqrstuvwxyz"
WAYS = {"+": 1, "-": -1}
# What stands behind the first word of each line.
FORMS = {
    "house": ("name", "text"), "drop": ("name",), "names": (), "show": ("name",), "rest": ("name",),
    "numbers": ("name",), "ways": ("name",), "needs": ("name", "way"), "room": ("name", "number"),
    "to": ("name", "number"), "bill": ("name", "text"), "swept": ("name",), "plan": ("name",),
    "make": ("name", "text"), "join": ("name", "number", "number", "number"), "undo": (),
}


def is_of(kind, word):
    """Whether a word of a line is of a kind."""
    if kind == "name":
        return 1 <= len(word) <= MOST_LETTERS and all([sign in LETTERS for sign in word])
    if kind == "number":
        return number_in(word) is not None
    if kind == "way":
        return word in WAYS
    return word != ""


def words_of(line):
    """The list of the words of a line, the last of which may be a text; refuses what has none of the forms."""
    if not isinstance(line, str) or "\n" in line:
        raise NoLine()
    first = line.partition(" ")[0]
    if first not in FORMS:
        raise NoLine()
    kinds = FORMS[first]
    words = line.split(" ", len(kinds))
    if words[0] != first or len(words) != len(kinds) + 1:
        raise NoLine()
    if not all([is_of(kind, word) for kind, word in zip(kinds, words[1:])]):
        raise NoLine()
    return words


def untexted(text):
    """A text of a line, with line feeds again."""
    return text.replace("|", "\n")


def tell_show(standing, words):
    """The text of the standing."""
    return standing_text(standing).replace("\n", "|")


def tell_rest(standing, words):
    """The least number of moves."""
    return str(rest(standing))


def tell_numbers(standing, words):
    """The numbers of the gaps."""
    return written(numbers(standing))


def tell_ways(standing, words):
    """The ways on which some move is not silly."""
    there = ways(standing)
    if len(there) == 2:
        return "both"
    if not there:
        return "done"
    return "up" if there[0] == 1 else "down"


def tell_needs(standing, words):
    """Who has to be aboard one way, and who may."""
    bounds = needs(standing, WAYS[words[2]])
    return "silly" if bounds is None else written(bounds)


def tell_room(standing, words):
    """The least room for so many moves."""
    room = least_room(standing, number_in(words[2]))
    return "never" if room is None else str(room)


def tell_to(standing, words):
    """The least number of moves to another end."""
    return str(rest_to(standing, number_in(words[2])))


def tell_bill(standing, words):
    """The least that a plan costs."""
    return str(least_bill(standing, read_prices(untexted(words[2]))))


def tell_swept(standing, words):
    """The moves of a lift that sweeps, and the silly ones."""
    moves = swept(standing)
    return written((len(moves), len(silly_in(standing, moves))))


def tell_plan(standing, words):
    """The text of a plan."""
    return log_text(plan(standing))


def drop(standing, words):
    """The pair of what is kept in the place of a standing that is dropped, and the answer."""
    return None, "ok"


def make(standing, words):
    """The same for a log that is made."""
    log = read_log(untexted(words[2]))
    return behind_log(standing, log), "ok " + str(many_silly(standing, log))


def join(standing, words):
    """The same for a group that joins."""
    later = joined(standing, tuple([number_in(word) for word in words[2:]]))
    return later, str(rest(later))


ANSWERS = {
    "show": tell_show, "rest": tell_rest, "numbers": tell_numbers, "ways": tell_ways, "needs": tell_needs,
    "room": tell_room, "to": tell_to, "bill": tell_bill, "swept": tell_swept, "plan": tell_plan,
}
CHANGES = {"drop": drop, "make": make, "join": join}


class Desk:
    """Keeps standings under names.

    Inside, kept has the standing of each name, and deeds for each line that can be taken back the name and what was
    kept under it ahead of the line, None for nothing.
    """

    def __init__(self):
        self.kept = {}
        self.deeds = []

    def tell(self, line):
        """Does one line, and gives its answer."""
        words = words_of(line)
        first = words[0]
        if first == "names":
            return " ".join(sorted(self.kept)) if self.kept else "none"
        if first == "undo":
            return self.undone()
        name = words[1]
        if first == "house":
            return self.keep(name, read_standing(untexted(words[2])), "ok")
        if name not in self.kept:
            raise NoName(name)
        standing = self.kept[name]
        if first in CHANGES:
            change = CHANGES[first]
            later, answer = change(standing, words)
            return self.keep(name, later, answer)
        answered = ANSWERS[first]
        return answered(standing, words)

    def keep(self, name, standing, answer):
        """Keeps a standing under a name, or nothing if it is None, and gives the answer."""
        self.deeds.append((name, self.kept.get(name)))
        self.put(name, standing)
        return answer

    def put(self, name, standing):
        """Puts a standing, or nothing, in the place of what is kept under a name."""
        if standing is not None:
            self.kept[name] = standing
        else:
            del self.kept[name]

    def undone(self):
        """Takes back the last line that changed something."""
        if not self.deeds:
            raise NothingDone()
        name, elder = self.deeds.pop()
        self.put(name, elder)
        return "ok"

    def undoable(self):
        """How many lines can be taken back."""
        return len(self.deeds)
