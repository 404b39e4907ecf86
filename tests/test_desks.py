import random
import time
import unittest

from tests.small import STRANGERS, slow_moves
from willinglift.desks import Desk
from willinglift.ends import rest_to
from willinglift.errors import (BadFloor, BadGroup, BadHouse, BadLog, BadPrices, BadStanding, BadText, LiftError, NoLine,
                               NoName, NotGround, NothingDone, TooMany)
from willinglift.gaps import numbers, rest
from willinglift.houses import House, Standing, standing_of
from willinglift.logs import as_log, behind_log
from willinglift.moves import is_plan
from willinglift.news import joined
from willinglift.plans import plan
from willinglift.prices import least_bill
from willinglift.rooms import least_room
from willinglift.rules import swept
from willinglift.silly import many_silly, silly_in
from willinglift.texts import log_text, prices_text, read_log, standing_text
from willinglift.wise import needs, ways

FIRST = Standing(House(3, 2), 0, ((0, 2, 3), (1, 2, 1), (2, 0, 1), (2, 1, 1)))
TEXT = "floors 3|room 2|lift 0|0 2 3|1 2 1|2 0 1|2 1 1"
SMALL = "floors 2|room 1|lift 1|0 1 1"


def text_of(standing):
    return standing_text(standing).replace("\n", "|")


def started(*lines):
    """A desk behind these lines."""
    desk = Desk()
    for line in lines:
        desk.tell(line)
    return desk


class Lines(unittest.TestCase):
    def told(self, desk, line, answer):
        found = desk.tell(line)
        self.assertIsInstance(found, str)
        self.assertEqual(found, answer, line)

    def test_each_form(self):
        desk = Desk()
        self.told(desk, "names", "none")
        self.told(desk, "house a " + TEXT, "ok")
        self.told(desk, "house small " + SMALL, "ok")
        self.told(desk, "names", "a small")
        self.told(desk, "show a", TEXT)
        self.told(desk, "show small", SMALL)
        self.told(desk, "rest a", "8")
        self.told(desk, "numbers a", "4 4")
        self.told(desk, "numbers small", "3")
        self.told(desk, "ways a", "up")
        self.told(desk, "ways small", "down")
        self.told(desk, "needs a +", "1 3")
        self.told(desk, "needs a -", "silly")
        self.told(desk, "needs small -", "0 0")
        self.told(desk, "room a 8", "2")
        self.told(desk, "room a 4", "4")
        self.told(desk, "room a 3", "never")
        self.told(desk, "room a " + "9" * 31, "1")
        self.told(desk, "to a 0", "8")
        self.told(desk, "to a 2", "6")
        self.told(desk, "bill a 1 2|30 40", "146")
        self.told(desk, "swept a", "8 0")
        self.told(desk, "plan small", "- +1x1 -")
        self.told(desk, "make small - 3( +1x1 -1x1 )", "ok 3")
        self.told(desk, "show small", "floors 2|room 1|lift 0|0 1 1")
        self.told(desk, "join small 1 0 5", "10")
        self.told(desk, "show small", "floors 2|room 1|lift 0|0 1 1|1 0 5")
        self.assertEqual(desk.undoable(), 4)
        self.told(desk, "undo", "ok")
        self.told(desk, "rest small", "2")
        self.told(desk, "drop a", "ok")
        self.told(desk, "names", "small")

    def test_ways(self):
        desk = started("house b floors 2|room 1|lift 0|0 0 3")
        self.told(desk, "ways b", "done")
        self.told(desk, "plan b", "")
        self.told(desk, "rest b", "0")
        self.told(desk, "swept b", "0 0")
        words = {(): "done", (1,): "up", (-1,): "down", (-1, 1): "both"}
        found = set()
        source = random.Random(171)
        for _ in range(80):
            house = House(source.randint(2, 4), source.randint(1, 2))
            rows = [(source.randrange(house.floors), source.randrange(house.floors), 1) for _ in range(3)]
            standing = standing_of(house, source.randrange(house.floors), source.choice((rows, rows, [])))
            desk.tell("house d " + text_of(standing))
            self.told(desk, "ways d", words[ways(standing)])
            found.add(words[ways(standing)])
        self.assertEqual(found, set(words.values()))

    def test_against_the_functions(self):
        source = random.Random(172)
        desk = Desk()
        for _ in range(80):
            house = House(source.randint(2, 5), source.randint(1, 3))
            rows = [(source.randrange(house.floors), source.randrange(house.floors), source.randint(1, 9))
                    for _ in range(source.randint(0, 5))]
            standing = standing_of(house, source.choice((0, 0, house.floors - 1)), rows)
            name = source.choice("abc")
            desk.tell(f"house {name} {text_of(standing)}")
            self.told(desk, f"show {name}", text_of(standing))
            self.told(desk, f"rest {name}", str(rest(standing)))
            self.told(desk, f"numbers {name}", " ".join(map(str, numbers(standing))))
            for sign, way in (("+", 1), ("-", -1)):
                bounds = needs(standing, way)
                self.told(desk, f"needs {name} {sign}", "{} {}".format(*bounds) if bounds else "silly")
            for many in (0, 3, rest(standing), rest(standing) + 5):
                room = least_room(standing, many)
                self.told(desk, f"room {name} {many}", "never" if room is None else str(room))
            if standing.lift == 0:
                for end in range(house.floors):
                    self.told(desk, f"to {name} {end}", str(rest_to(standing, end)))
            prices = tuple((source.randrange(9), source.randrange(9)) for _ in range(house.floors - 1))
            self.told(desk, f"bill {name} " + prices_text(prices).replace("\n", "|"), str(least_bill(standing, prices)))
            moves = swept(standing)
            self.told(desk, f"swept {name}", f"{len(moves)} {len(silly_in(standing, moves))}")
            made = read_log(desk.tell(f"plan {name}"))
            self.assertTrue(is_plan(standing, made))
            self.assertEqual((len(made), silly_in(standing, made)), (rest(standing), []))

    def test_names(self):
        desk = Desk()
        for name in ("b", "abcdefgh", "none", "house", "zz", "names", "aa", "undo"):
            self.told(desk, f"house {name} {SMALL}", "ok")
            self.told(desk, f"rest {name}", "3")
        self.told(desk, "names", "aa abcdefgh b house names none undo zz")
        self.told(desk, "drop names", "ok")
        self.told(desk, "names", "aa abcdefgh b house none undo zz")

    def test_plans_of_many_moves(self):
        start = time.perf_counter()
        desk = started("house a floors 2|room 1|lift 0|0 1 2500")
        self.told(desk, "plan a", " ".join(["+1x1 -"] * 2500))
        with self.assertRaises(BadLog):
            read_log(desk.tell("plan a"))
        desk.tell("join a 1 0 2501")
        for line in ("plan a", "swept a"):
            with self.assertRaises(TooMany) as caught:
                desk.tell(line)
            self.assertEqual(caught.exception.limit, 5000)
        self.told(desk, "rest a", "5002")
        self.assertLess(time.perf_counter() - start, 5)

    def test_enormous_rounds(self):
        desk = started(f"house a floors 2|room 1000000000000|lift 0|0 1 {10 ** 30}")
        self.told(desk, f"make a {10 ** 18 - 1}( +1x{10 ** 12} - )", "ok 0")
        self.told(desk, "show a", f"floors 2|room {10 ** 12}|lift 0|0 1 {10 ** 12}|1 1 {10 ** 30 - 10 ** 12}")
        self.told(desk, f"make a {10 ** 30}( {10 ** 30}( {10 ** 30}( + - ) ) )", f"ok {10 ** 90}")
        self.told(desk, "rest a", "2")

    def test_what_grows_beyond_the_bounds(self):
        desk = started(f"house a floors 2|room 1|lift 0|0 1 {10 ** 30}")
        for _ in range(10):
            desk.tell(f"join a 0 1 {10 ** 30}")
        self.told(desk, "show a", f"floors 2|room 1|lift 0|0 1 {11 * 10 ** 30}")
        self.told(desk, "rest a", str(22 * 10 ** 30))


class Undone(unittest.TestCase):
    def test_each_kind(self):
        desk = Desk()
        texts = []
        for line in (f"house a {TEXT}", f"house a {SMALL}", "make a -", "join a 0 1 4", "drop a", f"house a {TEXT}",
                     f"house b {SMALL}", "join b 1 0 1", "make b - + -", "drop b"):
            texts.append(self.told(desk))
            self.assertEqual(desk.undoable(), len(texts) - 1)
            desk.tell(line)
        while texts:
            self.assertEqual(desk.undoable(), len(texts))
            self.assertEqual(desk.tell("undo"), "ok")
            self.assertEqual(self.told(desk), texts.pop())
        for _ in range(2):
            with self.assertRaises(NothingDone):
                desk.tell("undo")
            self.assertEqual((desk.undoable(), desk.tell("names")), (0, "none"))

    def told(self, desk):
        names = desk.tell("names")
        return names, [] if names == "none" else [desk.tell(f"show {name}") for name in names.split(" ")]

    def test_questions_are_no_deeds(self):
        desk = started(f"house a {TEXT}")
        for line in ("names", "show a", "rest a", "numbers a", "ways a", "needs a +", "room a 5", "to a 1",
                     "bill a 1 1|2 2", "swept a", "plan a"):
            desk.tell(line)
            self.assertEqual(desk.undoable(), 1)
        desk.tell("undo")
        self.assertEqual((desk.tell("names"), desk.undoable()), ("none", 0))

    def test_what_changes_nothing_is_a_deed(self):
        desk = started(f"house a {TEXT}", f"house a {TEXT}", "make a + -")
        self.assertEqual(desk.tell("show a"), TEXT)
        self.assertEqual(desk.undoable(), 3)

    def test_drawn_rows(self):
        """Against a book of the test's own."""
        source = random.Random(173)
        for _ in range(40):
            desk, book, past = Desk(), {}, []
            for _ in range(40):
                name = source.choice("abc")
                kind = source.choice(("house", "drop", "make", "join", "undo", "undo", "make"))
                before = dict(book)
                is_deed = kind == "house" or kind != "undo" and name in book
                if kind == "house":
                    house = House(source.randint(2, 3), 2)
                    rows = [(source.randrange(house.floors), source.randrange(house.floors), 2) for _ in range(3)]
                    book[name] = standing_of(house, source.randrange(house.floors), rows)
                    self.assertEqual(desk.tell(f"house {name} {text_of(book[name])}"), "ok")
                elif kind == "undo":
                    if past:
                        self.assertEqual(desk.tell("undo"), "ok")
                        book = past.pop()
                    else:
                        with self.assertRaises(NothingDone):
                            desk.tell("undo")
                elif name not in book:
                    with self.assertRaises(NoName):
                        desk.tell({"drop": f"drop {name}", "make": f"make {name} +",
                                   "join": f"join {name} 0 1 1"}[kind])
                elif kind == "drop":
                    self.assertEqual(desk.tell(f"drop {name}"), "ok")
                    del book[name]
                elif kind == "make":
                    log = as_log((source.choice(slow_moves(book[name])),))
                    silly = many_silly(book[name], log)
                    self.assertEqual(desk.tell(f"make {name} {log_text(log)}"), f"ok {silly}")
                    book[name] = behind_log(book[name], log)
                else:
                    group = (source.randrange(2), source.randrange(2), source.randint(1, 5))
                    book[name] = joined(book[name], group)
                    self.assertEqual(desk.tell("join {} {} {} {}".format(name, *group)), str(rest(book[name])))
                past += [before] * is_deed
                self.assertEqual(desk.undoable(), len(past))
                self.assertEqual(desk.tell("names"), " ".join(sorted(book)) or "none")
                for one in book:
                    self.assertEqual(desk.tell(f"show {one}"), text_of(book[one]))


class Refused(unittest.TestCase):
    def setUp(self):
        self.desk = started(f"house a {TEXT}", f"house b {SMALL}", "join b 0 1 2")

    def tearDown(self):
        # Nothing that was refused has changed anything.
        told = ("a b", TEXT, "floors 2|room 1|lift 1|0 1 3", 3)
        self.assertEqual((self.desk.tell("names"), self.desk.tell("show a"), self.desk.tell("show b"),
                          self.desk.undoable()), told)
        self.desk.tell("undo")
        self.assertEqual(self.desk.tell("show b"), SMALL)

    def refused(self, error, line, **told):
        with self.assertRaises(error) as caught:
            self.desk.tell(line)
        self.assertEqual(vars(caught.exception), told, line)
        self.assertIsInstance(caught.exception, LiftError)

    def test_no_strings(self):
        for thing in STRANGERS:
            self.refused(NoLine, thing)

    def test_no_forms(self):
        lines = [f"house a {TEXT}", "drop a", "show a", "rest a", "numbers a", "ways a", "needs a +", "room a 8",
                 "to a 1", "bill a 1 2|3 4", "swept a", "plan a", "make a +", "join a 0 1 1", "names", "undo"]
        for line in lines:
            words = line.split(" ")
            for wrong in ["", " " + line, line + "\n", "\n" + line, line.replace(" ", "\t"), line.upper(),
                          line + "\t" if " " not in line else "", words[0].title() + line[len(words[0]):],
                          words[0] + "s" + line[len(words[0]):], " ".join(words[1:]), words[0] + " ",
                          line.replace("a", "a\n", 1)]:
                if wrong != line:
                    self.refused(NoLine, wrong)
            if len(words) > 1:
                for name in ("", "A", "abcdefghi", "a1", "1", "a_", "a.", "aB", "-", "a\t", "aaaaaaaaa", "~"):
                    self.refused(NoLine, " ".join([words[0], name, *words[2:]]))
                self.refused(NoLine, words[0])
                self.refused(NoLine, words[0] + "  " + " ".join(words[1:]))
            if words[0] not in ("house", "bill", "make"):
                self.refused(NoLine, line + " ")
                self.refused(NoLine, line + " 1")
                self.refused(NoLine, line.replace(" ", "  ") if " " in line else line + "  ")
                for many in range(1, len(words)):
                    self.refused(NoLine, " ".join(words[:many]))
        for line in ("house a", "house a ", "make a", "make a ", "bill a", "bill a ", "house", "house  " + TEXT, "hous a",
                     "needs a", "needs a 1", "needs a ++", "needs a up", "needs a + -", "join a 0 1", "join a 0 1 1 1",
                     "names a", "undo 1", "show", "names names", "room a", "room a 1 2", "?", "help", "quit"):
            self.refused(NoLine, line)

    def test_wrong_numbers(self):
        for word in ("", "01", "00", "-1", "+1", "x", "1.0", "1" * 32, "1,", "1\t", "0x1", "one"):
            for line in ("room a {}", "to a {}", "join a {} 1 1", "join a 0 {} 1", "join a 0 1 {}"):
                self.refused(NoLine, line.format(word))
                self.refused(NoLine, line.format(word).replace(" a ", " nobody "))

    def test_house(self):
        for text, error, told in (("x", BadText, {"index": 0}), (" " + TEXT, BadText, {"index": 0}),
                                  (TEXT + " ", BadText, {"index": 6}), (TEXT + "|", BadText, {"index": 7}),
                                  ("floors 3", BadText, {"index": 1}), ("|", BadText, {"index": 0}),
                                  ("floors 3|room  2|lift 0", BadText, {"index": 1}),
                                  ("floors 1|room 1|lift 0", BadHouse, {"part": "floors"}),
                                  ("floors 2|room 1|lift 2", BadStanding, {"part": "lift"}),
                                  ("floors 2|room 1|lift 0|0 1 0", BadStanding, {"part": "groups"}),
                                  ("floors 2\troom 1\tlift 0", BadText, {"index": 0})):
            for name in ("a", "new"):
                self.refused(error, f"house {name} {text}", **told)

    def test_no_names(self):
        for line in ("drop {}", "show {}", "rest {}", "numbers {}", "ways {}", "needs {} +", "room {} 8", "to {} 1",
                     "bill {} 1 2|3 4", "swept {}", "plan {}", "make {} +", "join {} 0 1 1",
                     # The name is asked for ahead of what else is wrong.
                     "make {} x", "make {}  ", "bill {} x", "to {} 99", "join {} 9 9 0"):
            for name in ("c", "aa", "names", "abcdefgh"):
                self.refused(NoName, line.format(name), name=name)

    def test_then_the_functions(self):
        for line, error, told in (("make a x", BadText, {"index": 0}), ("make a  +", BadText, {"index": 0}),
                                  ("make a + ", BadText, {"index": 1}), ("make a 2( + - )|-", BadText, {"index": 3}),
                                  ("make a 2( +", BadText, {"index": 2}), ("make a 0( + )", BadLog, {}),
                                  ("make a -", BadLog, {}), ("make a +2x9", BadLog, {}), ("make a + + +", BadLog, {}),
                                  ("make a " + " ".join("+-" * 101), BadLog, {}),
                                  ("bill a x", BadText, {"index": 0}), ("bill a 1 2|", BadText, {"index": 1}),
                                  ("bill a 1 2", BadPrices, {}), ("bill a 1 2|3 4|5 6", BadPrices, {}),
                                  (f"bill a 1 2|3 {10 ** 12 + 1}", BadPrices, {}),
                                  ("to a 3", BadFloor, {}), ("to b 0", NotGround, {}), ("to b 9", NotGround, {}),
                                  ("join a 3 0 1", BadGroup, {}), ("join a 0 3 1", BadGroup, {}),
                                  ("join a 0 1 0", BadGroup, {}), (f"join a 0 1 {10 ** 30 + 1}", BadGroup, {})):
            self.refused(error, line, **told)

    def test_greatest_lines(self):
        start = time.perf_counter()
        self.refused(NoLine, "a" * 20000)
        self.refused(NoLine, " " * 20000)
        self.refused(NoLine, "rest " + "a" * 19000)
        self.refused(BadText, "house a " + "|" * 19000, index=0)
        self.refused(BadText, "make a " + "1( " * 6000, index=6000)
        self.refused(BadLog, "make a " + "+ " * 9000 + "+")
        self.assertLess(time.perf_counter() - start, 3)


class Objects(unittest.TestCase):
    def test_desks_are_apart(self):
        one, other = started(f"house a {TEXT}"), Desk()
        self.assertEqual((one.tell("names"), other.tell("names")), ("a", "none"))
        self.assertEqual((one.undoable(), other.undoable()), (1, 0))
        for thing in [*STRANGERS, other, FIRST]:
            self.assertFalse(one == thing)

    def test_plan_is_that_of_the_functions(self):
        desk = started(f"house a {TEXT}")
        self.assertEqual(desk.tell("plan a"), log_text(plan(FIRST)))
        self.assertEqual(desk.tell("plan a"), desk.tell("plan a"))


if __name__ == "__main__":
    unittest.main()
