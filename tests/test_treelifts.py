import random
import time
import unittest

from tests.small import STANDING, STRANGERS
from tests.small_trees import (drawn_standing, is_tree_done, line, slow_sum, slow_tree_behind, slow_tree_moves)
from willinglift.errors import BadMove, LiftError, NothingDone
from willinglift.roads import is_stuck, road_sum, tree_silly_in, tree_ways
from willinglift.treelifts import TreeLift
from willinglift.trees import Tree, TreeStanding, is_tree_plan

# The lift is amid, and those of two branches want into each other.
STUCK = TreeStanding(Tree((0, 0), 1), 0, ((1, 2, 1), (2, 1, 1)))
STAND = TreeStanding(Tree((0, 1, 1), 2), 1, ((0, 2, 1), (1, 0, 1), (1, 2, 3), (1, 3, 1), (3, 1, 2)))


class Account:
    """A plain account of what a TreeLift has to tell: all that was so behind each move is kept."""

    def __init__(self, standing):
        self.rows = [(standing, (), 0)]

    def go(self, move):
        now, moves, silly = self.rows[-1]
        later = slow_tree_behind(now, move)
        self.rows.append((later, moves + (move,), silly + (slow_sum(later) > slow_sum(now))))

    def copy(self):
        other = Account(self.rows[0][0])
        other.rows = list(self.rows)
        return other


class Compared(unittest.TestCase):
    def compare(self, lift, account):
        now, moves, silly = account.rows[-1]
        self.assertEqual(lift.now(), now)
        self.assertEqual(lift.gone(), moves)
        self.assertIsInstance(lift.gone(), tuple)
        self.assertEqual(lift.silly(), silly)
        self.assertEqual(lift.whole(), slow_sum(now))
        self.assertEqual(lift.ways(), tree_ways(now))
        self.assertIs(lift.stuck(), is_stuck(now))
        self.assertEqual(lift.depth(), len(moves))


class Deeds(Compared):
    def one_deed(self, source, lift, account):
        """One drawn deed, done by both, perhaps none that can be done."""
        now = account.rows[-1][0]
        kind = source.choice(("go", "go", "go", "go", "back", "wrong"))
        if kind == "go":
            move = source.choice(slow_tree_moves(now))
            self.assertIsNone(lift.go(*move))
            account.go(move)
        elif kind == "back" and len(account.rows) > 1:
            self.assertIsNone(lift.back())
            account.rows.pop()
        elif kind == "back":
            with self.assertRaises(NothingDone):
                lift.back()
        else:
            with self.assertRaises(BadMove):
                lift.go(source.randrange(len(now.tree.parents) + 1), ((source.randrange(3), 9),))

    def test_long_rows(self):
        source = random.Random(141)
        for _ in range(60):
            standing = drawn_standing(source, source.randint(2, 7), source.randint(1, 3), 4, 2)
            groups = standing.groups
            lift, account = TreeLift(standing), Account(standing)
            for _ in range(30):
                self.one_deed(source, lift, account)
                self.compare(lift, account)
            self.assertEqual(standing.groups, groups)
            while lift.depth():
                lift.back()
                account.rows.pop()
                self.compare(lift, account)
            with self.assertRaises(NothingDone):
                lift.back()
            self.compare(lift, account)

    def test_copies_go_on_apart(self):
        source = random.Random(142)
        for _ in range(20):
            standing = drawn_standing(source, 5, 2, 4, 2)
            lifts = [(TreeLift(standing), Account(standing))]
            for _ in range(25):
                lift, account = source.choice(lifts)
                if source.random() < 0.2:
                    other = lift.copy()
                    self.assertIsInstance(other, TreeLift)
                    lifts.append((other, account.copy()))
                self.one_deed(source, lift, account)
                for one, told in lifts:
                    self.compare(one, told)

    def test_stuck(self):
        lift, account = TreeLift(STUCK), Account(STUCK)
        self.assertEqual((lift.whole(), lift.ways(), lift.stuck(), lift.silly()), (4, (), True, 0))
        for move in ((1, ()), (0, ((2, 1),)), (2, ((2, 1),)), (0, ((1, 1),)), (1, ((1, 1),)), (0, ())):
            lift.go(*move)
            account.go(move)
            self.compare(lift, account)
        self.assertEqual((lift.whole(), lift.ways(), lift.stuck(), lift.silly()), (0, (), False, 1))
        self.assertTrue(is_tree_done(lift.now()) and is_tree_plan(STUCK, lift.gone()))
        for _ in range(6):
            lift.back()
        self.assertIs(lift.stuck(), True)

    def test_great(self):
        start = time.perf_counter()
        rows = tuple((stand, want, 10 ** 30) for stand in range(20) for want in range(20))
        standing = TreeStanding(Tree(line(20), 10 ** 12), 7, rows)
        lift = TreeLift(standing)
        for _ in range(500):
            lift.go(8, ((3, 10 ** 12),))
            lift.go(7, ((12, 5),))
        self.assertEqual(lift.silly(), len(tree_silly_in(standing, lift.gone())))
        self.assertEqual(lift.whole(), road_sum(standing) - 1000 + 2 * lift.silly())
        self.assertGreater(lift.now().groups[7 * 20 + 12][2], 10 ** 30)
        while lift.depth():
            lift.back()
        self.assertEqual(lift.now(), standing)
        self.assertLess(time.perf_counter() - start, 10)


class Refused(Compared):
    def test_moves(self):
        lift, account = TreeLift(STAND), Account(STAND)
        lift.go(2, ((2, 2),))
        account.go((2, ((2, 2),)))
        for thing in [*STRANGERS, 0, 2, 3, -1, 4, 10 ** 39, STAND]:
            for aboard in (thing, ()):
                with self.assertRaises(BadMove):
                    lift.go(thing, aboard)
            if thing != ():
                with self.assertRaises(BadMove):
                    lift.go(1, thing)
        for aboard in (((2, 3),), ((0, 1),), ((2, 0),), ((2, 1), (2, 1)), [(2, 1)], ([2, 1],), ((2, True),)):
            with self.assertRaises(BadMove):
                lift.go(1, aboard)
        with self.assertRaises(BadMove):
            lift.go(True, ())
        self.compare(lift, account)


class Trying(Compared):
    def started(self):
        lift, account = TreeLift(STAND), Account(STAND)
        for move in ((2, ((2, 2),)), (1, ()), (0, ((0, 1), (2, 1)))):
            lift.go(*move)
            account.go(move)
        return lift, account

    def test_what_is_returned(self):
        lift, account = self.started()
        for thing in [*STRANGERS, lift]:
            self.assertIs(lift.trying(lambda other: thing), thing)
        self.assertIs(lift.trying(lambda other: other), lift)
        self.assertEqual(lift.trying(lambda other: (other.go(1, ()), other.depth(), other.now().lift)), (None, 4, 1))
        self.compare(lift, account)

    def test_errors_go_on(self):
        lift, account = self.started()
        for wrong, call in ((BadMove, lambda other: (other.go(1, ()), other.go(1, ()))),
                            (NothingDone, lambda other: [other.back() for _ in range(9)]),
                            (ZeroDivisionError, lambda other: (other.back(), 1 // 0))):
            with self.assertRaises(wrong):
                lift.trying(call)
            self.compare(lift, account)

    def test_more_is_taken_back(self):
        lift, account = self.started()

        def inner(other):
            other.back()
            other.go(1, ())
            raise IndexError(other.depth())

        def deed(other):
            for _ in range(3):
                other.back()
            other.go(3, ((3, 1),))
            told = (other.now(), other.gone(), other.silly())
            with self.assertRaises(BadMove):
                other.trying(lambda third: third.go(3, ()))
            with self.assertRaises((IndexError, BadMove)):
                other.trying(inner)
            self.assertEqual((other.now(), other.gone(), other.silly()), told)
            return other.depth(), other.copy()

        depth, other = lift.trying(deed)
        self.assertEqual((depth, other.gone()), (1, ((3, ((3, 1),)),)))
        other.back()
        self.assertEqual(other.now(), STAND)
        self.compare(lift, account)
        while lift.depth():
            lift.back()
            account.rows.pop()
            self.compare(lift, account)


class Objects(unittest.TestCase):
    def test_equal_to_nothing_else(self):
        lift = TreeLift(STAND)
        for other in [*STRANGERS, STAND, STANDING, STAND.tree, LiftError()]:
            self.assertFalse(lift == other)
            self.assertTrue(other != lift)

    def test_the_standing_stays(self):
        standing = TreeStanding(STAND.tree, 1, STAND.groups)
        lift = TreeLift(standing)
        now = lift.now()
        lift.go(3, ((3, 1),))
        self.assertEqual((standing, now), (STAND, STAND))


if __name__ == "__main__":
    unittest.main()
