import random
import time
import unittest

from tests.small import STANDING, STRANGERS, slow_behind, slow_moves, small_standings
from willinglift.errors import BadLog, BadMove, BadMoves
from willinglift.gaps import rest
from willinglift.houses import House, Standing, standing_of
from willinglift.logs import written_out
from willinglift.moves import behind
from willinglift.silly import change, many_silly, silly_in

UP, DOWN = (1, ()), (-1, ())
HUGE = 10 ** 30


def random_standing(source):
    house = House(source.randint(2, 6), source.randint(1, 3))
    pairs = [(source.randrange(house.floors), source.randrange(house.floors)) for _ in range(4)]
    return standing_of(house, source.randrange(house.floors), [(stand, want, 2) for stand, want in pairs])


def random_walk(source, standing, many):
    """Moves, and the list of the places of the silly ones, told by rest."""
    moves, places = [], []
    for index in range(many):
        move = source.choice(slow_moves(standing))
        other = slow_behind(standing, move)
        if rest(other) > rest(standing):
            places.append(index)
        moves.append(move)
        standing = other
    return tuple(moves), places


class Change(unittest.TestCase):
    def test_second_fact(self):
        for floors, room, most in ((2, 1, 4), (2, 3, 4), (3, 1, 3), (3, 2, 3), (4, 2, 2), (5, 1, 2)):
            for standing in small_standings(floors, room, most):
                for move in slow_moves(standing):
                    risen = change(standing, move)
                    self.assertIn(risen, (1, -1))
                    self.assertEqual(risen, rest(slow_behind(standing, move)) - rest(standing))
                    self.assertEqual(silly_in(standing, (move,)), [0] if risen == 1 else [])
                    self.assertEqual(many_silly(standing, (move,)), 1 if risen == 1 else 0)

    def test_great(self):
        standing = standing_of(House(3, 10 ** 12), 0, [(0, 2, HUGE ** 2), (2, 0, 5)])
        self.assertEqual(change(standing, (1, ((2, 10 ** 12),))), -1)
        self.assertEqual(change(standing, UP), 1)

    def test_bad_moves(self):
        for thing in [*STRANGERS, DOWN, (1, ((2, 3),)), (True, ()), [1, ()]]:
            with self.assertRaises(BadMove):
                change(STANDING, thing)


class SillyIn(unittest.TestCase):
    def test_walks(self):
        source = random.Random(3)
        for _ in range(150):
            standing = random_standing(source)
            moves, places = random_walk(source, standing, 12)
            self.assertEqual(silly_in(standing, moves), places)
            # The third fact.
            self.assertEqual(len(moves), rest(standing) - rest(behind(standing, moves)) + 2 * len(places))

    def test_edges(self):
        self.assertEqual(silly_in(STANDING, ()), [])
        one = silly_in(STANDING, (UP, DOWN, UP))
        self.assertEqual(one, [0, 2])
        one.append(9)
        self.assertEqual(silly_in(STANDING, (UP, DOWN, UP)), [0, 2])

    def test_long(self):
        start = time.perf_counter()
        standing = standing_of(House(40, 1), 0, [(stand, want, 10) for stand in range(40) for want in range(40)])
        moves = ((1, ((5, 1),)), (-1, ((5, 1),))) * 2500
        self.assertEqual(len(silly_in(standing, moves)), 2500)
        self.assertLess(time.perf_counter() - start, 5)

    def test_bad_moves(self):
        for index, moves in ((0, (DOWN,)), (1, (UP, (1, ((0, 1),)))), (2, (UP, UP, UP)), (2, (UP, DOWN, None, 5)),
                             (1, (UP, [1, ()])), (-1, [UP]), (-1, None)):
            with self.assertRaises(BadMoves) as caught:
                silly_in(STANDING, moves)
            self.assertEqual(caught.exception.index, index)
        for thing in STRANGERS:
            for index, moves in ((0, (thing,)), (2, (UP, DOWN, thing)), (-1, thing)):
                if index != -1 or not isinstance(thing, tuple):
                    with self.assertRaises(BadMoves) as caught:
                        silly_in(STANDING, moves)
                    self.assertEqual(caught.exception.index, index)


class ManySilly(unittest.TestCase):
    def test_moves_alone(self):
        source = random.Random(4)
        for _ in range(100):
            standing = random_standing(source)
            moves, places = random_walk(source, standing, 9)
            self.assertEqual(many_silly(standing, moves), len(places))

    def test_small_rounds(self):
        standing = Standing(House(3, 1), 0, ((0, 1, 5), (2, 0, 4)))
        trip = ((1, ((1, 1),)), DOWN)
        for log in ((("times", 5, trip),), (("times", 5, (*trip, UP, DOWN)),), (UP, ("times", 3, (UP, DOWN)), DOWN),
                    (("times", 2, (("times", 2, trip), UP, DOWN)), *trip), ()):
            self.assertEqual(many_silly(standing, log), len(silly_in(standing, written_out(log))))

    def test_enormous(self):
        start = time.perf_counter()
        standing = Standing(House(2, 1), 0, ((0, 1, HUGE),))
        trip = ((1, ((1, 1),)), DOWN)
        self.assertEqual(many_silly(standing, (("times", HUGE, trip),)), 0)
        self.assertEqual(many_silly(standing, (("times", HUGE - 1, trip), ("times", HUGE, (UP, DOWN)))), HUGE)
        deep = (("times", HUGE, (("times", HUGE, (("times", HUGE, (UP, DOWN)),)),)),)
        self.assertEqual(many_silly(standing, deep), HUGE ** 3)
        self.assertEqual(many_silly(standing, (("times", HUGE, (*trip, ("times", 7, (UP, DOWN)))),)), 7 * HUGE)
        # Behind the last trip home up and down are silly, and silly alone.
        done = Standing(House(2, 1), 0, ((1, 1, HUGE),))
        self.assertEqual(many_silly(done, (("times", HUGE, (UP, DOWN)),)), HUGE)
        self.assertLess(time.perf_counter() - start, 1)

    def test_bad_logs(self):
        for thing in [*STRANGERS, (DOWN,), (("times", 2, (UP, UP)),), [UP], (("times", 0, (UP, DOWN)),),
                      (("times", 4, ((1, ((2, 1),)), DOWN)),), (UP, DOWN) * 100 + (UP,)]:
            if thing != ():
                with self.assertRaises(BadLog):
                    many_silly(STANDING, thing)


if __name__ == "__main__":
    unittest.main()
