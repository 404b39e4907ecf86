import random
import time
import unittest

from tests.small import STANDING, STRANGERS, slow_behind, slow_moves, small_standings
from tests.test_gaps import great_standing, slow_counts
from willinglift.errors import BadWay, TooMany
from willinglift.gaps import crossings, rest
from willinglift.houses import House, Standing, is_done, standing_of
from willinglift.moves import all_moves, moved
from willinglift.silly import change
from willinglift.wise import needs, ways, willing_move, wise_moves


def slow_needs(standing, way):
    """As the document tells the two numbers."""
    house, lift = standing.house, standing.lift
    if not 0 <= lift + way < house.floors:
        return None
    gap = min(lift, lift + way)
    up, down, _ = slow_counts(standing, gap)
    ups, downs = crossings(standing, gap)
    here = sum(many for stand, want, many in standing.groups if stand == lift and (want - lift) * way > 0)
    if way == 1:
        least, most = max(0, up - house.room * (ups - 1)), house.room * ups - down
    else:
        least, most = max(0, down - house.room * (downs - 1)), house.room * (downs - 1) - up
        if downs == 1 and any(stand != want and max(stand, want) >= lift and not (stand == lift and want < lift)
                              for stand, want, _ in standing.groups):
            return None
    return None if here < least or least > house.room else (least, most)


class Needs(unittest.TestCase):
    def test_against_all_moves(self):
        for floors, room, most in ((2, 1, 4), (2, 3, 5), (3, 1, 3), (3, 2, 4), (4, 2, 3), (3, 3, 3)):
            for standing in small_standings(floors, room, most):
                found = [way for way in (-1, 1) if needs(standing, way) is not None]
                self.assertEqual(ways(standing), tuple(found))
                for way in (-1, 1):
                    self.assertEqual(needs(standing, way), slow_needs(standing, way))
                for way, aboard in slow_moves(standing):
                    bounds = needs(standing, way)
                    forward = sum(many for want, many in aboard if (want - standing.lift) * way > 0)
                    others = sum(many for _, many in aboard) - forward
                    is_wise = bounds is not None and bounds[0] <= forward and others <= bounds[1]
                    self.assertEqual(is_wise, rest(slow_behind(standing, (way, aboard))) < rest(standing))

    def test_each_none(self):
        house = House(3, 2)
        # No such move.
        self.assertIsNone(needs(Standing(house, 0, ((0, 1, 1),)), -1))
        self.assertIsNone(needs(Standing(house, 2, ((2, 1, 1),)), 1))
        # Done.
        self.assertIsNone(needs(Standing(house, 0, ((1, 1, 1),)), 1))
        # Down once more only, and somebody is left above, or at the floor of the lift.
        self.assertIsNone(needs(Standing(house, 1, ((2, 1, 1),)), -1))
        self.assertIsNone(needs(Standing(house, 1, ((1, 2, 1),)), -1))
        self.assertIsNone(needs(Standing(house, 2, ((2, 0, 1), (2, 2, 5)), ), 1))
        self.assertEqual(needs(Standing(house, 2, ((2, 0, 1), (2, 2, 5))), -1), (1, 0))
        self.assertEqual(needs(Standing(house, 1, ((1, 0, 2), (2, 2, 5))), -1), (2, 0))
        # Somebody below wants here, so that the lift goes down more than once.
        self.assertEqual(needs(Standing(house, 1, ((0, 1, 1),)), -1), (0, 1))
        # Too few of those here want this way.
        self.assertIsNone(needs(Standing(house, 1, ((0, 2, 1), (2, 0, 1))), 1))
        self.assertIsNone(needs(Standing(house, 1, ((0, 2, 3), (1, 2, 1))), 1))
        self.assertIsNone(needs(Standing(house, 1, ((0, 2, 1), (1, 2, 1), (2, 1, 1))), 1))
        self.assertEqual(needs(Standing(house, 1, ((0, 2, 2), (1, 2, 1), (2, 1, 1))), 1), (1, 3))
        self.assertEqual(needs(Standing(house, 1, ((0, 2, 1), (1, 2, 2), (2, 1, 1))), 1), (1, 3))

    def test_most_may_be_above_the_room(self):
        self.assertEqual(needs(Standing(House(2, 1), 0, ((0, 1, 5),)), 1), (1, 5))
        self.assertEqual(needs(Standing(House(2, 3), 0, ((0, 1, 10),)), 1), (1, 12))

    def test_great(self):
        start = time.perf_counter()
        source = random.Random(9)
        for lift in (0, 1, 20, 38, 39):
            for room in (1, 7, 10 ** 12):
                for way in (-1, 1):
                    standing = great_standing(lift, room)
                    self.assertEqual(needs(standing, way), slow_needs(standing, way))
        for _ in range(300):
            house = House(40, source.choice((1, 10, 10 ** 12)))
            rows = [(source.randrange(40), source.randrange(40), source.randint(1, 10 ** 30)) for _ in range(6)]
            standing = standing_of(house, source.randrange(40), rows)
            for way in (-1, 1):
                self.assertEqual(needs(standing, way), slow_needs(standing, way))
        self.assertLess(time.perf_counter() - start, 10)

    def test_bad_ways(self):
        for thing in [*STRANGERS, 0, 2, -2, True, False]:
            with self.assertRaises(BadWay):
                needs(STANDING, thing)


class WiseMoves(unittest.TestCase):
    def test_against_all_moves(self):
        for floors, room, most in ((2, 2, 5), (3, 1, 3), (3, 2, 4), (4, 3, 3)):
            for standing in small_standings(floors, room, most):
                wise = wise_moves(standing)
                self.assertEqual(wise, [move for move in slow_moves(standing) if change(standing, move) == -1])
                # The fourth fact.
                self.assertEqual(bool(wise), not is_done(standing))
                self.assertEqual(ways(standing), tuple(sorted({way for way, _ in wise})))

    def test_greater_crowds(self):
        source = random.Random(11)
        for _ in range(150):
            house = House(source.randint(2, 5), source.randint(1, 9))
            lift = source.randrange(house.floors)
            rows = [(lift, source.randrange(house.floors), source.randint(1, 5)) for _ in range(4)]
            rows += [(source.randrange(house.floors), source.randrange(house.floors), 2) for _ in range(3)]
            standing = standing_of(house, lift, rows)
            self.assertEqual(wise_moves(standing),
                             [move for move in all_moves(standing) if change(standing, move) == -1])

    def test_limit(self):
        great = House(2, 10 ** 12)
        # 20000 moves, and 20001; one of them is not silly, or none.
        for people in (19999, 20000):
            for lift, expected in ((1, [(-1, ())]), (0, [])):
                standing = Standing(great, lift, ((lift, lift, people),))
                if people == 19999:
                    self.assertEqual(wise_moves(standing), expected)
                else:
                    with self.assertRaises(TooMany) as caught:
                        wise_moves(standing)
                    self.assertEqual(caught.exception.limit, 20000)
        # At least as many go as fill no whole lift, and at most as many as there is room for.
        crowded = Standing(House(2, 19999), 0, ((0, 1, 10 ** 30),))
        self.assertEqual(len(wise_moves(crowded)), 19999 - 10 ** 30 % 19999 + 1)
        three = House(3, 10 ** 12)
        self.assertEqual(len(wise_moves(Standing(three, 1, ((1, 0, 9999),)))), 1)
        with self.assertRaises(TooMany):
            wise_moves(Standing(three, 1, ((1, 0, 10000),)))

    def test_new_each_time(self):
        one = wise_moves(STANDING)
        one.clear()
        self.assertEqual(wise_moves(STANDING), [(1, ((2, 1),)), (1, ((2, 2),))])


class Willing(unittest.TestCase):
    def test_until_done(self):
        for floors, room, most in ((2, 2, 4), (3, 1, 3), (3, 2, 3), (4, 2, 2)):
            for standing in small_standings(floors, room, most):
                move = willing_move(standing)
                self.assertEqual(move is None, is_done(standing))
                if move is not None:
                    self.assertEqual(change(standing, move), -1)
                    self.assertEqual(willing_move(standing_of(standing.house, standing.lift, standing.groups)), move)

    def test_a_whole_way(self):
        standing = standing_of(House(7, 2), 4, [(stand, 6 - stand, 5) for stand in range(7)])
        for left in reversed(range(rest(standing))):
            standing = moved(standing, willing_move(standing))
            self.assertEqual(rest(standing), left)
        self.assertIsNone(willing_move(standing))
        self.assertTrue(is_done(standing))

    def test_great(self):
        for lift in (0, 20, 39):
            for room in (1, 10 ** 12):
                standing = great_standing(lift, room)
                self.assertEqual(change(standing, willing_move(standing)), -1)


if __name__ == "__main__":
    unittest.main()
