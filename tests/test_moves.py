import time
import unittest

from tests.small import STANDING, STRANGERS, slow_behind, slow_moves, small_standings
from willinglift.errors import BadGroups, BadMove, BadMoves, TooMany
from willinglift.houses import House, Standing, is_done, standing_of
from willinglift.moves import all_moves, behind, is_move, is_plan, moved

MIDDLE = Standing(House(3, 2), 1, ((0, 2, 1), (1, 0, 2), (1, 1, 3), (1, 2, 1), (2, 0, 1)))


class Single(unittest.TestCase):
    def test_ordinary(self):
        for move, groups in (
                ((1, ((0, 1), (2, 1))), ((0, 2, 1), (1, 0, 1), (1, 1, 3), (2, 0, 2), (2, 2, 1))),
                ((-1, ((0, 2),)), ((0, 0, 2), (0, 2, 1), (1, 1, 3), (1, 2, 1), (2, 0, 1))),
                ((-1, ((2, 1),)), ((0, 2, 2), (1, 0, 2), (1, 1, 3), (2, 0, 1))),
                ((1, ((1, 2),)), ((0, 2, 1), (1, 0, 2), (1, 1, 1), (1, 2, 1), (2, 0, 1), (2, 1, 2))),
                ((1, ()), MIDDLE.groups)):
            self.assertIs(is_move(MIDDLE, move), True)
            self.assertEqual(moved(MIDDLE, move), Standing(MIDDLE.house, 1 + move[0], groups))
        self.assertEqual(MIDDLE.groups, ((0, 2, 1), (1, 0, 2), (1, 1, 3), (1, 2, 1), (2, 0, 1)))

    def refused(self, standing, thing):
        self.assertIs(is_move(standing, thing), False, thing)
        with self.assertRaises(BadMove):
            moved(standing, thing)

    def test_wrong(self):
        for thing in ((0, ()), (2, ()), (-2, ()), (1,), (1, (), ()), (), [1, ()], (1, []), (1, ([2, 1],)),
                      (True, ()), (1, ((2, True),)), (1, ((True, 1),)), (1, ((2, 2),)), (1, ((0, 3),)),
                      (1, ((1, 3),)), (1, ((0, 2), (2, 1))), (1, ((2, 1), (0, 1))), (1, ((0, 1), (0, 1))),
                      (1, ((0, 0),)), (1, ((0, -1),)), (1, ((3, 1),)), (1, ((-1, 1),)), (1, ((2, 1, 1),)), (1, (2, 1))):
            self.refused(MIDDLE, thing)
        for thing in STRANGERS:
            self.refused(MIDDLE, thing)
            self.refused(MIDDLE, (1, thing))
            self.refused(MIDDLE, (thing, ()))
            self.refused(MIDDLE, (1, (thing,)))
            self.refused(MIDDLE, (1, ((thing, 1),)))
            self.refused(MIDDLE, (1, ((0, thing),)))

    def test_refused_ones_change_nothing(self):
        groups = MIDDLE.groups
        self.refused(MIDDLE, (1, ((0, 1), (1, 1), (2, 1))))
        with self.assertRaises(BadMoves):
            behind(MIDDLE, ((1, ((2, 1),)), (-1, ()), None))
        self.assertEqual(MIDDLE, Standing(House(3, 2), 1, groups))
        rows = [(0, 1, 1), (0, 1, 2), None]
        with self.assertRaises(BadGroups):
            standing_of(MIDDLE.house, 0, rows)
        self.assertEqual(rows, [(0, 1, 1), (0, 1, 2), None])

    def test_lowest_and_highest_floor(self):
        low, high = Standing(House(2, 1), 0, ((0, 1, 1),)), Standing(House(2, 1), 1, ((1, 1, 1),))
        self.assertTrue(is_move(low, (1, ())) and is_move(high, (-1, ())))
        self.refused(low, (-1, ()))
        self.refused(high, (1, ()))

    def test_just_the_room(self):
        standing = Standing(House(3, 10 ** 12), 0, ((0, 1, 10 ** 30), (0, 2, 10 ** 30)))
        self.assertTrue(is_move(standing, (1, ((1, 10 ** 12),))))
        self.refused(standing, (1, ((1, 10 ** 12 + 1),)))
        self.assertTrue(is_move(standing, (1, ((1, 1), (2, 10 ** 12 - 1)))))
        self.refused(standing, (1, ((1, 1), (2, 10 ** 12))))
        behind_it = moved(standing, (1, ((1, 10 ** 12),)))
        self.assertEqual(behind_it.groups, ((0, 1, 10 ** 30 - 10 ** 12), (0, 2, 10 ** 30), (1, 1, 10 ** 12)))

    def test_against_slow_ones(self):
        for floors, room, most in ((2, 1, 3), (2, 2, 4), (3, 2, 3), (4, 1, 2), (3, 3, 3)):
            for standing in small_standings(floors, room, most):
                moves = all_moves(standing)
                self.assertEqual(moves, slow_moves(standing))
                for move in moves:
                    self.assertTrue(is_move(standing, move))
                    self.assertEqual(moved(standing, move), slow_behind(standing, move))


class AllMoves(unittest.TestCase):
    def test_ascending(self):
        moves = all_moves(MIDDLE)
        self.assertEqual(moves, sorted(moves))
        self.assertEqual(moves[:4], [(-1, ()), (-1, ((0, 1),)), (-1, ((0, 1), (1, 1))), (-1, ((0, 1), (2, 1)))])
        self.assertEqual(len(moves), len(set(moves)))
        moves.clear()
        self.assertEqual(len(all_moves(MIDDLE)), 18)
        self.assertEqual(all_moves(Standing(House(2, 1), 1, ())), [(-1, ())])

    def limit(self, standing, many):
        if many <= 20000:
            self.assertEqual(len(all_moves(standing)), many)
        else:
            with self.assertRaises(TooMany) as caught:
                all_moves(standing)
            self.assertEqual(caught.exception.limit, 20000)

    def test_just_let(self):
        great = House(3, 10 ** 12)
        for people, many in ((19999, 20000), (20000, 20001)):
            self.limit(Standing(great, 0, ((0, 1, people),)), many)
            self.limit(Standing(great, 2, ((2, 2, people),)), many)
        for people, many in ((9999, 20000), (10000, 20002)):
            self.limit(Standing(great, 1, ((1, 0, people),)), many)
        self.limit(Standing(great, 0, ((0, 1, 99), (0, 2, 199))), 20000)
        self.limit(Standing(great, 0, ((0, 0, 1), (0, 1, 99), (0, 2, 100))), 20200)
        self.limit(Standing(great, 1, ((1, 0, 99), (1, 2, 99))), 20000)
        self.limit(Standing(House(2, 19999), 0, ((0, 0, 10 ** 30),)), 20000)
        self.limit(Standing(House(2, 20000), 0, ((0, 0, 10 ** 30),)), 20001)

    def test_room_counts(self):
        # With n wishes and room r there are (n + r over r) moves one way.
        groups = tuple((0, want, 10 ** 30) for want in range(40))
        self.limit(Standing(House(40, 1), 0, groups), 41)
        self.limit(Standing(House(40, 2), 0, groups), 861)
        self.limit(Standing(House(40, 3), 0, groups), 12341)
        self.limit(Standing(House(40, 4), 0, groups), 135751)
        three = Standing(House(3, 196), 0, tuple((0, want, 10 ** 30) for want in range(2)))
        self.limit(three, 19503)
        self.limit(Standing(House(3, 199), 0, three.groups), 20100)

    def test_soon(self):
        start = time.perf_counter()
        for many in (1, 2, 10 ** 3, 10 ** 30):
            groups = tuple((20, want, many) for want in range(40))
            for room in (10, 10 ** 6, 10 ** 12):
                self.limit(Standing(House(40, room), 20, groups), 10 ** 9)
        self.assertLess(time.perf_counter() - start, 5)


class Behind(unittest.TestCase):
    def refused(self, index, standing, thing):
        self.assertIs(is_plan(standing, thing), False)
        with self.assertRaises(BadMoves) as caught:
            behind(standing, thing)
        self.assertEqual(caught.exception.index, index)

    def test_ordinary(self):
        standing = Standing(House(3, 1), 0, ((0, 2, 1),))
        moves = ((1, ((2, 1),)), (1, ((2, 1),)), (-1, ()), (-1, ()))
        for many, groups in enumerate((((0, 2, 1),), ((1, 2, 1),), ((2, 2, 1),), ((2, 2, 1),), ((2, 2, 1),))):
            self.assertEqual(behind(standing, moves[:many]), Standing(House(3, 1), (0, 1, 2, 1, 0)[many], groups))
            self.assertIs(is_plan(standing, moves[:many]), many == 4)
        self.assertEqual(standing.groups, ((0, 2, 1),))
        self.assertTrue(is_plan(standing, moves + ((1, ()), (-1, ()))))
        self.refused(4, standing, moves + ((-1, ()),))
        self.refused(1, standing, (moves[0], (1, ((2, 2),))))
        self.refused(1, standing, (moves[0], (-1, ((2, 1), (2, 1)))))
        self.refused(2, standing, (moves[0], moves[1], (-1, ((1, 1),)), None))

    def test_empty(self):
        done = Standing(House(2, 1), 0, ((1, 1, 3),))
        self.assertEqual(behind(done, ()), done)
        self.assertIs(is_plan(done, ()), True)
        self.assertEqual(behind(STANDING, ()), STANDING)
        self.assertIs(is_plan(STANDING, ()), False)

    def test_strangers(self):
        for thing in STRANGERS:
            if not isinstance(thing, tuple):
                self.refused(-1, STANDING, thing)
            else:
                self.refused(0, STANDING, thing)
            self.refused(0, STANDING, (thing,))
            self.refused(1, STANDING, ((1, ()), thing))
        self.refused(-1, STANDING, [(1, ())])

    def test_many_moves(self):
        standing = standing_of(House(2, 1), 0, [(0, 1, 30000)])
        moves = ((1, ((1, 1),)), (-1, ())) * 30000
        self.assertTrue(is_done(behind(standing, moves)))
        self.assertTrue(is_plan(standing, moves))
        self.refused(60000, standing, moves + ((1, ((1, 1),)),))

    def test_against_slow_ones(self):
        for standing in small_standings(3, 2, 2):
            for move in slow_moves(standing):
                once = slow_behind(standing, move)
                for later in slow_moves(once):
                    twice = slow_behind(once, later)
                    self.assertEqual(behind(standing, (move, later)), twice)
                    self.assertEqual(is_plan(standing, (move, later)), is_done(twice))


if __name__ == "__main__":
    unittest.main()
