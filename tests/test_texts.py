import random
import time
import unittest

from tests.small import HOUSE, NO_NUMBERS, STANDING, STRANGERS, great_standing, small_standings
from willinglift.errors import BadHouse, BadLog, BadStanding, BadText
from willinglift.houses import House, Standing, standing_of
from willinglift.logs import is_log, length_of
from willinglift.plans import plan
from willinglift.texts import log_text, prices_text, read_log, read_prices, read_standing, standing_text

UP, DOWN = (1, ()), (-1, ())
GREAT = 10 ** 31 - 1
ONE_WORD = [word for word in NO_NUMBERS if " " not in word]


class Texts(unittest.TestCase):
    def refused(self, read, index, text):
        with self.assertRaises(BadText) as caught:
            read(text)
        self.assertEqual(caught.exception.index, index, repr(text))

    def strangers(self, read):
        for thing in STRANGERS:
            if not isinstance(thing, str):
                self.refused(read, -1, thing)


class Standings(Texts):
    def back(self, standing):
        text = standing_text(standing)
        self.assertIsInstance(text, str)
        there = read_standing(text)
        self.assertIsInstance(there, Standing)
        self.assertEqual(there, standing)
        self.assertEqual(standing_text(there), text)

    def test_there_and_back(self):
        self.assertEqual(standing_text(STANDING), "floors 3\nroom 2\nlift 0\n0 2 3\n1 2 1")
        self.assertEqual(standing_text(Standing(House(2, 1), 1, ())), "floors 2\nroom 1\nlift 1")
        for standing in small_standings(3, 2, 2):
            self.back(standing)
        self.back(great_standing(random.Random(151), 10 ** 30, 10 ** 12))
        self.back(Standing(House(40, 10 ** 12), 39, ((0, 39, 10 ** 30),)))

    def test_beyond_the_bounds(self):
        rows = [(stand, want, 1) for stand in range(21) for want in range(20)]
        standing = standing_of(House(21, 1), 0, rows)
        text = standing_text(standing)
        self.assertEqual(len(text.split("\n")), 3 + 420)
        with self.assertRaises(BadStanding) as caught:
            read_standing(text)
        self.assertEqual(caught.exception.part, "groups")
        for many in (10 ** 30 + 1, GREAT):
            text = standing_text(standing_of(HOUSE, 0, [(0, 1, 1), (1, 2, many)]))
            self.assertEqual(text, f"floors 3\nroom 2\nlift 0\n0 1 1\n1 2 {many}")
            with self.assertRaises(BadStanding):
                read_standing(text)
        # There are numbers that are too long to be read again.
        for many in (10 ** 31, 10 ** 39):
            self.refused(read_standing, 4, standing_text(standing_of(HOUSE, 0, [(0, 1, 1), (1, 2, many)])))

    def test_no_strings(self):
        self.strangers(read_standing)

    def test_wrong_words(self):
        lines = ["floors 3", "room 2", "lift 0", "0 2 3", "1 2 1"]
        for word in NO_NUMBERS:
            for index, line in enumerate(lines):
                words = line.split(" ")
                for at in range(1 if index < 3 else 0, len(words)):
                    wrong = [*words[:at], word, *words[at + 1:]]
                    self.refused(read_standing, index,
                                 "\n".join([*lines[:index], " ".join(wrong), *lines[index + 1:]]))

    def test_wrong_lines(self):
        lines = ["floors 3", "room 2", "lift 0", "0 2 3", "1 2 1"]
        for index in range(5):
            for wrong in ("", " ", lines[index] + " ", " " + lines[index], lines[index].replace(" ", "  "),
                          lines[index].replace(" ", "\t"), lines[index] + "\t", lines[index] + " 1", "0 1", "0", "0 1 2 3",
                          lines[index].split(" ")[0], lines[index].upper() + "x", "Floors 3", "rooms 2", "floor 3",
                          "floors3", "lift=0", "0,1,2", "parents 0", lines[index] + "."):
                text = "\n".join([*lines[:index], wrong, *lines[index + 1:]])
                self.refused(read_standing, index, text)
                # The first wrong line is told.
                self.refused(read_standing, index, text + "\nwrong")
            if index < 3:
                for other in range(5):
                    if other != index:
                        self.refused(read_standing, index, "\n".join([*lines[:index], lines[other], *lines[index + 1:]]))

    def test_lines_left_out_twice_and_exchanged(self):
        lines = ["floors 3", "room 2", "lift 0", "0 2 3", "1 2 1"]
        for index in range(3):
            self.refused(read_standing, index, "\n".join(lines[:index] + lines[index + 1:]))
            self.refused(read_standing, index + 1, "\n".join(lines[:index + 1] + lines[index:]))
            self.refused(read_standing, 5, "\n".join(lines + [lines[index]]))
            self.refused(read_standing, index, "\n".join(lines[:index] + lines[index:][::-1]))
        # Then the groups are not ascending.
        for text in ("\n".join(lines[:3] + lines[:2:-1]), "\n".join(lines + lines[-1:])):
            with self.assertRaises(BadStanding) as caught:
                read_standing(text)
            self.assertEqual(caught.exception.part, "groups")

    def test_lines_that_lack(self):
        self.refused(read_standing, 0, "")
        self.refused(read_standing, 1, "floors 3")
        self.refused(read_standing, 2, "floors 3\nroom 2")
        self.assertEqual(read_standing("floors 3\nroom 2\nlift 0").groups, ())
        for many, text in enumerate(("\n", "floors 3\n", "floors 3\nroom 2\n", "floors 3\nroom 2\nlift 0\n",
                                     standing_text(STANDING) + "\n")):
            self.refused(read_standing, (0, 1, 2, 3, 5)[many], text)
        self.refused(read_standing, 0, "\n" + standing_text(STANDING))
        self.refused(read_standing, 3, "floors 3\nroom 2\nlift 0\n\n0 1 1")
        # A line that is wrong is told ahead of lines that lack.
        self.refused(read_standing, 0, "floors 03")
        self.refused(read_standing, 1, "floors 3\nlift 0")

    def test_then_house_and_standing(self):
        for text, part in (("floors 1\nroom 0\nlift 9", "floors"), ("floors 41\nroom 1\nlift 0", "floors"),
                           ("floors 0\nroom 1\nlift 0", "floors"), ("floors " + "9" * 31 + "\nroom 1\nlift 0", "floors"),
                           ("floors 2\nroom 0\nlift 9", "room"), ("floors 2\nroom 1000000000001\nlift 0", "room")):
            with self.assertRaises(BadHouse) as caught:
                read_standing(text)
            self.assertEqual(caught.exception.part, part)
        for text, part in (("floors 2\nroom 1\nlift 2\n0 9 0", "lift"), ("floors 2\nroom 1\nlift 1\n0 2 1", "groups"),
                           ("floors 2\nroom 1\nlift 1\n0 1 0", "groups"),
                           ("floors 2\nroom 1\nlift 1\n2 1 1", "groups"),
                           ("floors 2\nroom 1\nlift 1\n0 1 " + "9" * 31, "groups")):
            with self.assertRaises(BadStanding) as caught:
                read_standing(text)
            self.assertEqual(caught.exception.part, part)
        # Lines that are not written so come first.
        self.refused(read_standing, 3, "floors 1\nroom 0\nlift 9\n0 1")

    def test_greatest_texts(self):
        start = time.perf_counter()
        for text, index in (("0 1 1\n" * 3333, 0), ("\n" * 20000, 0),
                            ("floors 9\nroom 1\nlift 0\n" + "0 1 1\n" * 3000, 3003), ("9" * 20000, 0),
                            ("floors " + "9" * 19000, 0), ("floors" + " 9" * 9000, 0)):
            self.refused(read_standing, index, text)
        with self.assertRaises(BadStanding):
            read_standing("floors 9\nroom 1\nlift 0" + "\n0 1 1" * 3000)
        self.assertLess(time.perf_counter() - start, 3)


def drawn_move(source):
    wants = sorted(source.sample(range(40), source.randint(0, 3)))
    return source.choice((1, -1)), tuple((want, source.choice((1, 7, GREAT))) for want in wants)


def drawn_log(source, depth, least=0):
    log = []
    for _ in range(source.randint(least, 3)):
        if depth and source.random() < 0.6:
            log.append(("times", source.choice((1, 12, 10 ** 30)), drawn_log(source, depth - 1, 1)))
        else:
            log.append(drawn_move(source))
    return tuple(log)


class Logs(Texts):
    def test_by_hand(self):
        for log, text in (((), ""), ((UP,), "+"), ((DOWN, UP), "- +"), (((1, ((0, 1), (12, 34))),), "+0x1,12x34"),
                          ((UP, ("times", 10 ** 30, (("times", 2, (UP, DOWN)), (-1, ((3, 4),)))), DOWN),
                           "+ " + str(10 ** 30) + "( 2( + - ) -3x4 ) -"),
                          ((("times", 1, (("times", 2, (("times", 3, (UP,)),)),)),), "1( 2( 3( + ) ) )")):
            self.assertEqual(log_text(log), text)
            self.assertEqual(read_log(text), log)

    def test_there_and_back(self):
        source = random.Random(152)
        for _ in range(500):
            log = drawn_log(source, 3)
            text = log_text(log)
            self.assertIsInstance(text, str)
            self.assertEqual(read_log(text), log)
            self.assertIsInstance(read_log(text), tuple)
            self.assertEqual(length_of(read_log(text)), length_of(log))
        log = (UP,) * 200
        self.assertEqual(read_log(log_text(log)), log)
        moves = plan(STANDING)
        self.assertEqual(read_log(log_text(moves)), moves)
        self.assertTrue(is_log(STANDING, read_log(log_text(moves))))

    def test_impossible_moves(self):
        # Wants of no house, and crowds for which there is no room anywhere.
        self.assertEqual(read_log("+" + str(GREAT) + "x" + str(GREAT)), ((1, ((GREAT, GREAT),)),))
        self.assertEqual(log_text(((1, ((10 ** 39, 10 ** 39),)),)), "+" + str(10 ** 39) + "x" + str(10 ** 39))
        self.refused(read_log, 0, "+" + str(10 ** 31) + "x1")

    def test_no_strings(self):
        self.strangers(read_log)

    def test_wrong_words(self):
        for word in ["", "*", "1", "++", "+-", "+x", "+1", "+1x", "+x1", "+1x1x1", "+1x1,", "+,1x1", "+1x1,,2x1", "+1X1",
                     "+1*1", "+1x1;2x1", "(", "1((", "1()", "()", "1)", "((", "))", "1x1", "x", "\t", "+\t", "+\n", "\n",
                     "+1x1\n", "times", "+ ", "1(\t", "+(", "-1x-1", "+(1x1)", "up", "~"] + \
                [f"+{word}x1" for word in ONE_WORD] + [f"-1x{word}" for word in ONE_WORD] + \
                [f"+1x1,{word}x1" for word in ONE_WORD] + [f"{word}(" for word in ONE_WORD]:
            if " " in word:
                continue
            self.refused(read_log, 0, word + (" +" if word == "" else ""))
            self.refused(read_log, 1, "+ " + word)
            self.refused(read_log, 2, "2( - " + word + " )")
            self.refused(read_log, 1, "+ " + word + " wrong )")

    def test_blanks(self):
        for text, index in ((" ", 0), (" +", 0), ("+ ", 1), ("+  -", 1), ("2( +  )", 2), ("2(  + )", 1), ("2( + ) ", 3),
                            ("   ", 0), ("+\t-", 0)):
            self.refused(read_log, index, text)

    def test_words_where_they_cannot_stand(self):
        for text, index in ((")", 0), ("+ )", 1), ("2( )", 1), ("2( 3( ) )", 2), ("2( + ) )", 3), ("2( 3( + ) ) )", 5),
                            ("2( + ) 3( )", 4), ("2( + 3( )", 3)):
            self.refused(read_log, index, text)
        for text, many in (("2(", 1), ("2( +", 2), ("2( 3( + )", 4), ("2( 3(", 2), ("+ 2( + ) 3( -", 6), ("2( 3( +", 3)):
            self.refused(read_log, many, text)
        # The first wrong word is told ahead of what lacks.
        self.refused(read_log, 1, "2( x")

    def test_then_the_log(self):
        for text in ("0( + )", str(10 ** 30 + 1) + "( + )", "9" * 31 + "( + )", "+1x0", "-2x1,1x1", "+1x1,1x1",
                     "+1x1,1x2", "1( 1( 1( 1( + ) ) ) )", " ".join("+" * 201), "2( " + " ".join("+" * 201) + " )",
                     " ".join(["2( + )"] * 201)):
            with self.assertRaises(BadLog):
                read_log(text)
        # Words that are not written so come first.
        self.refused(read_log, 5, "0( +1x0 -2x1,1x1 ) 1( )")
        self.refused(read_log, 8, "1( 1( 1( 1( + ) ) )")
        self.refused(read_log, 201, " ".join("+" * 201) + " x")

    def test_greatest_texts(self):
        start = time.perf_counter()
        with self.assertRaises(BadLog):
            read_log("+ " * 9999 + "+")
        with self.assertRaises(BadLog):
            read_log("1( " * 3000 + "+" + " )" * 3000)
        with self.assertRaises(BadLog):
            read_log("+" + ",".join(["1x1"] * 4999))
        self.refused(read_log, 6666, "1( " * 6665 + "1(")
        self.refused(read_log, 0, ")" + " )" * 9999)
        self.refused(read_log, 0, " " * 20000)
        self.refused(read_log, 0, "1" * 19999 + "(")
        self.refused(read_log, 1, "+ " + "x" * 19998)
        self.assertEqual(len(read_log("+" + ",".join([f"{want}x1" for want in range(3000)]))[0][1]), 3000)
        self.assertLess(time.perf_counter() - start, 3)


class Prices(Texts):
    def test_there_and_back(self):
        self.assertEqual(prices_text(((1, 2), (0, 10 ** 12))), "1 2\n0 1000000000000")
        self.assertEqual(read_prices("1 2\n0 1000000000000"), ((1, 2), (0, 10 ** 12)))
        source = random.Random(153)
        for _ in range(100):
            prices = tuple((source.choice((0, 5, 10 ** 12)), source.randrange(10 ** 12))
                           for _ in range(source.randint(1, 39)))
            self.assertEqual(read_prices(prices_text(prices)), prices)

    def test_of_no_house(self):
        self.assertEqual(read_prices(f"{GREAT} {GREAT}"), ((GREAT, GREAT),))
        self.assertEqual(read_prices("0 0\n" * 99 + "1 1"), ((0, 0),) * 99 + ((1, 1),))

    def test_wrong_lines(self):
        self.strangers(read_prices)
        self.refused(read_prices, 0, "")
        self.refused(read_prices, 0, "\n")
        self.refused(read_prices, 1, "1 2\n")
        self.refused(read_prices, 1, "1 2\n\n3 4")
        for wrong in ["1", "1 2 3", "1  2", " 1 2", "1 2 ", "1\t2", "1,2", "a b", "1 2\t", ""] + \
                [f"{word} 1" for word in NO_NUMBERS] + [f"1 {word}" for word in NO_NUMBERS]:
            for many in range(3):
                self.refused(read_prices, many, "1 2\n" * many + wrong + "\nwrong")

    def test_greatest_texts(self):
        start = time.perf_counter()
        self.assertEqual(len(read_prices("1 1\n" * 4999 + "1 1")), 5000)
        self.refused(read_prices, 4999, "1 1\n" * 4999)
        self.refused(read_prices, 0, "1 " + "1" * 19998)
        self.assertLess(time.perf_counter() - start, 2)


if __name__ == "__main__":
    unittest.main()
