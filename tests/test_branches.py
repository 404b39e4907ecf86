import random
import time
import unittest

from tests.small import NO_NUMBERS, STRANGERS
from tests.small_trees import drawn_standing, star
from willinglift.branches import read_tree, tree_text
from willinglift.errors import BadStanding, BadText, BadTree
from willinglift.houses import House, standing_of
from willinglift.roads import line_tree
from willinglift.trees import Tree, TreeStanding

STAND = TreeStanding(Tree((0, 1, 1), 2), 1, ((0, 2, 1), (3, 1, 2)))
LINES = ["parents 0 1 1", "room 2", "lift 1", "0 2 1", "3 1 2"]


class Texts(unittest.TestCase):
    def refused(self, index, text):
        with self.assertRaises(BadText) as caught:
            read_tree(text)
        self.assertEqual(caught.exception.index, index, repr(text))

    def test_there_and_back(self):
        self.assertEqual(tree_text(STAND), "\n".join(LINES))
        self.assertEqual(tree_text(TreeStanding(Tree((0,), 1), 0, ())), "parents 0\nroom 1\nlift 0")
        source = random.Random(161)
        standings = [drawn_standing(source, source.randint(2, 20), 10 ** 12, 9, 10 ** 29) for _ in range(100)]
        rows = tuple((stand, want, 10 ** 30) for stand in range(20) for want in range(20))
        for standing in [*standings, STAND, TreeStanding(Tree(star(20), 1), 19, rows)]:
            text = tree_text(standing)
            self.assertIsInstance(text, str)
            there = read_tree(text)
            self.assertIsInstance(there, TreeStanding)
            self.assertEqual(there, standing)
            self.assertEqual(tree_text(there), text)

    def test_beyond_the_bounds(self):
        there = line_tree(standing_of(House(2, 1), 0, [(0, 1, 10 ** 30), (0, 1, 1)]), 0)
        self.assertEqual(tree_text(there), f"parents 0\nroom 1\nlift 0\n0 1 {10 ** 30 + 1}")
        with self.assertRaises(BadStanding):
            read_tree(tree_text(there))
        there = line_tree(standing_of(House(2, 1), 0, [(0, 1, 10 ** 31)]), 0)
        self.refused(3, tree_text(there))

    def test_no_strings(self):
        for thing in STRANGERS:
            if not isinstance(thing, str):
                self.refused(-1, thing)

    def test_wrong_words(self):
        for word in NO_NUMBERS:
            for index, line in enumerate(LINES):
                words = line.split(" ")
                for at in range(1 if index < 3 else 0, len(words)):
                    wrong = [*words[:at], word, *words[at + 1:]]
                    self.refused(index, "\n".join([*LINES[:index], " ".join(wrong), *LINES[index + 1:]]))

    def test_wrong_lines(self):
        for index in range(5):
            for wrong in ("", " ", LINES[index] + " ", " " + LINES[index], LINES[index].replace(" ", "  "),
                          LINES[index].replace(" ", "\t"), "0 1", "0", "0 1 2 3", LINES[index].split(" ")[0],
                          "Parents 0", "parent 0", "parents", "parents ", "parents0", "floors 3", "rooms 2",
                          LINES[index] + " x"):
                self.refused(index, "\n".join([*LINES[:index], wrong, *LINES[index + 1:]]))
            if index < 3:
                for other in range(5):
                    if other != index:
                        self.refused(index, "\n".join([*LINES[:index], LINES[other], *LINES[index + 1:]]))
            if index > 0:
                self.refused(index, "\n".join([*LINES[:index], LINES[index] + " 1", *LINES[index + 1:]]))

    def test_lines_that_lack(self):
        self.refused(0, "")
        self.refused(1, "parents 0")
        self.refused(2, "parents 0\nroom 1")
        for index in range(3):
            self.refused(index, "\n".join(LINES[:index] + LINES[index + 1:]))
            self.refused(index + 1, "\n".join(LINES[:index + 1] + LINES[index:]))
        self.refused(5, "\n".join(LINES) + "\n")
        self.refused(3, "parents 0\nroom 1\nlift 0\n")

    def test_then_tree_and_standing(self):
        for text, part in (("parents 1\nroom 0\nlift 9", "parents"), ("parents 0 2\nroom 1\nlift 0", "parents"),
                           ("parents" + " 0" * 20 + "\nroom 1\nlift 0", "parents"),
                           ("parents " + "9" * 31 + "\nroom 1\nlift 0", "parents"),
                           ("parents 0\nroom 0\nlift 9", "room"), ("parents 0\nroom 1000000000001\nlift 0", "room")):
            with self.assertRaises(BadTree) as caught:
                read_tree(text)
            self.assertEqual(caught.exception.part, part)
        for text, part in (("parents 0\nroom 1\nlift 2\n0 9 0", "lift"), ("parents 0\nroom 1\nlift 1\n0 2 1", "groups"),
                           ("parents 0\nroom 1\nlift 1\n0 1 0", "groups"),
                           ("parents 0\nroom 1\nlift 1\n1 0 1\n0 1 1", "groups"),
                           ("parents 0\nroom 1\nlift 1\n0 1 " + "9" * 31, "groups")):
            with self.assertRaises(BadStanding) as caught:
                read_tree(text)
            self.assertEqual(caught.exception.part, part)
        self.refused(3, "parents 1\nroom 0\nlift 9\n0 1")

    def test_greatest_texts(self):
        start = time.perf_counter()
        self.refused(0, "\n" * 20000)
        self.refused(0, "parents " + "9" * 19000)
        self.refused(1, "parents" + " 0" * 9990)
        with self.assertRaises(BadTree):
            read_tree("parents" + " 0" * 9900 + "\nroom 1\nlift 0")
        with self.assertRaises(BadStanding):
            read_tree("parents 0\nroom 1\nlift 0" + "\n0 1 1" * 3000)
        self.assertLess(time.perf_counter() - start, 2)


if __name__ == "__main__":
    unittest.main()
