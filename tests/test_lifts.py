import random
import time
import unittest

from tests.small import HOUSE, STANDING, STRANGERS, great_standing, slow_behind, slow_moves
from willinglift.errors import BadGroup, BadMove, LiftError, NothingDone, TooMany
from willinglift.gaps import rest
from willinglift.houses import House, Standing, is_done, standing_of
from willinglift.lifts import Lift
from willinglift.moves import behind, is_plan
from willinglift.plans import plan
from willinglift.silly import silly_in
from willinglift.wise import ways

UP, DOWN = (1, ()), (-1, ())
BEYOND = Standing(House(2, 1), 1, ((0, 1, 2500),))
DONE = Standing(HOUSE, 0, ((0, 0, 4),))


class Account:
    """A plain account of what a Lift has to tell: all that was so behind each deed is kept."""

    def __init__(self, standing):
        self.rows = [(standing, (), 0, rest(standing))]

    def go(self, move):
        now, moves, silly, told = self.rows[-1]
        later = slow_behind(now, move)
        self.rows.append((later, moves + (move,), silly + (rest(later) > rest(now)), told))

    def join(self, group):
        now, moves, silly, told = self.rows[-1]
        later = standing_of(now.house, now.lift, [*now.groups, group])
        self.rows.append((later, moves, silly, told + rest(later) - rest(now)))

    def finish(self, made):
        now, moves, silly, told = self.rows[-1]
        self.rows.append((behind(now, made), moves + made, silly, told))

    def copy(self):
        other = Account(self.rows[0][0])
        other.rows = list(self.rows)
        return other


class Compared(unittest.TestCase):
    def compare(self, lift, account):
        now, moves, silly, told = account.rows[-1]
        self.assertEqual(lift.now(), now)
        self.assertEqual(lift.gone(), moves)
        self.assertIsInstance(lift.gone(), tuple)
        self.assertEqual(lift.silly(), silly)
        self.assertEqual(lift.rest(), rest(now))
        self.assertEqual(lift.ways(), ways(now))
        self.assertEqual(lift.saved(), told - len(moves) - rest(now))
        self.assertEqual(lift.saved(), -2 * silly)
        self.assertEqual(lift.depth(), len(account.rows) - 1)


class Deeds(Compared):
    def one_deed(self, source, lift, account):
        """One drawn deed, done by both, perhaps none that can be done."""
        now = account.rows[-1][0]
        kind = source.choice(("go", "go", "go", "go", "go", "join", "finish", "back", "back", "wrong"))
        if kind == "go":
            move = source.choice(slow_moves(now))
            self.assertIsNone(lift.go(*move))
            account.go(move)
        elif kind == "join":
            group = (source.randrange(now.house.floors), source.randrange(now.house.floors), source.randint(1, 3))
            self.assertIsNone(lift.join(group))
            account.join(group)
        elif kind == "finish":
            made = lift.finish()
            self.assertTrue(is_plan(now, made))
            self.assertEqual((len(made), silly_in(now, made)), (rest(now), []))
            account.finish(made)
        elif kind == "back" and len(account.rows) > 1:
            self.assertIsNone(lift.back())
            account.rows.pop()
        elif kind == "back":
            with self.assertRaises(NothingDone):
                lift.back()
        else:
            with self.assertRaises(BadMove):
                lift.go(source.choice((1, -1)), ((source.randrange(now.house.floors), 9),))

    def test_long_rows(self):
        source = random.Random(101)
        for _ in range(60):
            house = House(source.randint(2, 5), source.randint(1, 3))
            rows = [(source.randrange(house.floors), source.randrange(house.floors), source.randint(1, 2))
                    for _ in range(source.randint(0, 3))]
            standing = standing_of(house, source.randrange(house.floors), rows)
            groups = standing.groups
            lift, account = Lift(standing), Account(standing)
            for _ in range(40):
                self.one_deed(source, lift, account)
                self.compare(lift, account)
            self.assertEqual((standing.groups, standing.house), (groups, house))

    def test_all_back(self):
        source = random.Random(102)
        for _ in range(20):
            standing = great_standing(source, 3, 2, floors=4, groups=4)
            lift, account = Lift(standing), Account(standing)
            while lift.depth() < 25:
                self.one_deed(source, lift, account)
            while lift.depth():
                lift.back()
                account.rows.pop()
                self.compare(lift, account)
            self.assertEqual(lift.now(), standing)
            for _ in range(2):
                with self.assertRaises(NothingDone):
                    lift.back()
            self.compare(lift, account)

    def test_copies_go_on_apart(self):
        source = random.Random(103)
        for _ in range(20):
            standing = great_standing(source, 3, 2, floors=4, groups=3)
            lifts = [(Lift(standing), Account(standing))]
            for _ in range(30):
                lift, account = source.choice(lifts)
                if source.random() < 0.2:
                    other = lift.copy()
                    self.assertIsInstance(other, Lift)
                    lifts.append((other, account.copy()))
                self.one_deed(source, lift, account)
                for one, told in lifts:
                    self.compare(one, told)

    def test_saved(self):
        lift = Lift(STANDING)
        self.assertEqual((lift.saved(), lift.rest()), (0, 8))
        lift.go(*UP)
        self.assertEqual((lift.saved(), lift.silly(), lift.rest()), (-2, 1, 9))
        lift.join((0, 2, 5))
        self.assertEqual((lift.saved(), lift.silly(), lift.rest()), (-2, 1, 19))
        lift.join((1, 1, 5))
        self.assertEqual(lift.saved(), -2)
        lift.go(*DOWN)
        lift.go(1, ((2, 2),))
        self.assertEqual((lift.saved(), lift.silly()), (-2, 1))
        self.assertEqual(len(lift.finish()), 17)
        self.assertEqual((lift.saved(), lift.rest()), (-2, 0))
        lift.go(*UP)
        self.assertEqual((lift.saved(), lift.silly()), (-4, 2))
        lift.back()
        self.assertEqual((lift.saved(), lift.silly()), (-2, 1))

    def test_great(self):
        source = random.Random(104)
        standing = great_standing(source, 10 ** 30, 10 ** 12)
        lift, account = Lift(standing), Account(standing)
        start = time.perf_counter()
        moves = 0
        for _ in range(3000):
            there = lift.ways()
            lift.go(there[0], ()) if source.random() < 0.5 or not there else lift.go(source.choice(there), ())
            moves += 1
        self.assertEqual((len(lift.gone()), lift.depth()), (moves, moves))
        self.assertEqual(lift.now(), behind(standing, lift.gone()))
        while lift.depth():
            lift.back()
        self.assertLess(time.perf_counter() - start, 10)
        self.compare(lift, account)


class Finished(Compared):
    def test_one_deed(self):
        lift = Lift(STANDING)
        made = lift.finish()
        self.assertEqual(made, plan(STANDING))
        self.assertTrue(is_done(lift.now()))
        self.assertEqual((lift.gone(), lift.depth(), lift.rest(), lift.ways()), (made, 1, 0, ()))
        lift.back()
        self.assertEqual((lift.now(), lift.gone(), lift.depth()), (STANDING, (), 0))

    def test_no_moves(self):
        lift = Lift(DONE)
        self.assertEqual((lift.finish(), lift.finish()), ((), ()))
        self.assertEqual((lift.gone(), lift.depth()), ((), 2))
        lift.join((0, 1, 1))
        self.assertEqual((len(lift.finish()), lift.finish(), lift.depth()), (2, (), 5))
        lift.back()
        self.assertEqual(len(lift.gone()), 2)
        lift.back()
        self.assertEqual((lift.gone(), lift.depth(), lift.rest()), ((), 3, 2))
        for _ in range(3):
            lift.back()
        with self.assertRaises(NothingDone):
            lift.back()
        self.assertEqual(lift.now(), DONE)

    def test_too_many(self):
        lift, account = Lift(BEYOND), Account(BEYOND)
        with self.assertRaises(TooMany) as caught:
            lift.finish()
        self.assertEqual(caught.exception.limit, 5000)
        self.compare(lift, account)
        lift.go(*DOWN)
        account.go(DOWN)
        self.compare(lift, account)
        # Moves that were made before do not count.
        made = lift.finish()
        self.assertEqual((len(made), len(lift.gone()), lift.depth()), (5000, 5001, 2))
        lift.back()
        self.compare(lift, account)
        lift.back()
        with self.assertRaises(TooMany):
            lift.finish()


class Refused(Compared):
    def test_moves(self):
        lift, account = Lift(STANDING), Account(STANDING)
        lift.go(1, ((2, 1),))
        account.go((1, ((2, 1),)))
        for thing in [*STRANGERS, 0, 2, -2, 10 ** 39]:
            for aboard in (thing, ()):
                with self.assertRaises(BadMove):
                    lift.go(thing, aboard)
            for way in (1, -1):
                if thing != ():
                    with self.assertRaises(BadMove):
                        lift.go(way, thing)
        for way, aboard in ((1, ((2, 3),)), (1, ((0, 1),)), (1, ((2, 0),)), (1, ((2, 1), (2, 1))), (1, [(2, 1)]),
                            (1, ([2, 1],)), (-1, ((2, True),)), (True, ()), (1, ((2, 1, 1),))):
            with self.assertRaises(BadMove):
                lift.go(way, aboard)
        self.compare(lift, account)
        lift.go(1, ())
        with self.assertRaises(BadMove):
            lift.go(1, ())

    def test_groups(self):
        lift, account = Lift(STANDING), Account(STANDING)
        for thing in [*STRANGERS, (0, 3, 1), (3, 0, 1), (0, 1, 0), (0, 1, -1), (0, 1, True), (True, 1, 1), [0, 1, 1],
                      (0, 1), (0, 1, 10 ** 30 + 1), (-1, 0, 1)]:
            with self.assertRaises(BadGroup):
                lift.join(thing)
        self.compare(lift, account)
        for _ in range(3):
            lift.join((0, 2, 10 ** 30))
            account.join((0, 2, 10 ** 30))
        self.compare(lift, account)
        self.assertEqual(lift.now().groups[0], (0, 2, 3 * 10 ** 30 + 3))


class Trying(Compared):
    def started(self):
        lift, account = Lift(STANDING), Account(STANDING)
        for move in (UP, (1, ((2, 1),)), DOWN):
            lift.go(*move)
            account.go(move)
        lift.join((1, 0, 2))
        account.join((1, 0, 2))
        return lift, account

    def test_what_is_returned(self):
        lift, account = self.started()
        for thing in [*STRANGERS, lift]:
            self.assertIs(lift.trying(lambda other: thing), thing)
        self.assertIs(lift.trying(lambda other: other), lift)
        self.assertEqual(lift.trying(Lift.finish), plan(account.rows[-1][0]))
        self.assertEqual(lift.trying(lambda other: (other.go(*DOWN), other.silly(), other.depth())), (None, 2, 5))
        self.compare(lift, account)

    def test_errors_go_on(self):
        lift, account = self.started()

        def deed(other):
            other.finish()
            other.join((0, 1, 1))
            raise KeyError("mine")

        with self.assertRaises(KeyError):
            lift.trying(deed)
        self.compare(lift, account)
        for wrong, call in ((BadMove, lambda other: (other.go(*DOWN), other.go(*DOWN))),
                            (BadGroup, lambda other: (other.finish(), other.join(None))),
                            (NothingDone, lambda other: [other.back() for _ in range(9)]),
                            (ZeroDivisionError, lambda other: 1 // 0)):
            with self.assertRaises(wrong):
                lift.trying(call)
            self.compare(lift, account)

    def test_more_is_taken_back(self):
        lift, account = self.started()

        def deed(other):
            for _ in range(4):
                other.back()
            other.go(1, ((2, 2),))
            return other.depth(), other.gone()

        self.assertEqual(lift.trying(deed), (1, ((1, ((2, 2),)),)))
        self.compare(lift, account)
        while lift.depth():
            lift.back()
            account.rows.pop()
            self.compare(lift, account)

    def test_trials_within_trials(self):
        lift, account = self.started()

        def inner(other):
            other.back()
            other.go(*UP)
            raise IndexError(other.depth())

        def deed(other):
            other.finish()
            told = (other.now(), other.gone(), other.depth(), other.silly())
            with self.assertRaises(IndexError) as caught:
                other.trying(inner)
            self.assertEqual(caught.exception.args, (5,))
            self.assertEqual((other.now(), other.gone(), other.depth(), other.silly()), told)
            self.assertEqual(other.trying(lambda third: third.trying(Lift.depth)), 5)
            other.back()
            other.back()
            return other.depth()

        self.assertEqual(lift.trying(deed), 3)
        self.compare(lift, account)

    def test_copies_of_a_trial_stay(self):
        lift, account = self.started()
        other = lift.trying(lambda there: (there.go(*DOWN), there.copy())[1])
        self.compare(lift, account)
        told = account.copy()
        told.go(DOWN)
        self.compare(other, told)
        other.go(*UP)
        other.back()
        other.back()
        told.rows.pop()
        self.compare(other, told)
        self.compare(lift, account)


class Objects(unittest.TestCase):
    def test_equal_to_nothing_else(self):
        lift = Lift(STANDING)
        for other in [*STRANGERS, STANDING, (STANDING,), LiftError()]:
            self.assertFalse(lift == other)
            self.assertTrue(other != lift)

    def test_the_standing_stays(self):
        standing = Standing(HOUSE, 0, STANDING.groups)
        lift = Lift(standing)
        lift.finish()
        now = lift.now()
        lift.join((0, 1, 1))
        lift.go(*UP)
        self.assertEqual(standing, STANDING)
        self.assertTrue(is_done(now))

    def test_beyond_the_bounds(self):
        rows = [(stand, want, 10 ** 31) for stand in range(40) for want in range(40)]
        standing = standing_of(House(40, 10 ** 12), 7, rows)
        lift = Lift(standing)
        lift.go(1, ((3, 10 ** 12),))
        self.assertEqual(lift.now(), behind(standing, lift.gone()))
        self.assertEqual(lift.copy().now(), lift.now())
        lift.back()
        self.assertEqual(lift.now(), standing)


if __name__ == "__main__":
    unittest.main()
