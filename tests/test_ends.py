import random
import time
import unittest
from itertools import combinations_with_replacement

from tests.small import (STANDING, STRANGERS, at_lift, great_standing, slow_behind, slow_rests, small_standings)
from willinglift.ends import plan_to, rest_to, turned
from willinglift.errors import BadFloor, NotGround, TooMany
from willinglift.gaps import rest
from willinglift.houses import House, Standing, standing_of
from willinglift.moves import behind

UP, DOWN = (1, ()), (-1, ())
LIMIT = Standing(House(2, 1), 0, ((1, 0, 2500),))


def all_home(standing):
    return all(stand == want for stand, want, _ in standing.groups)


class Turned(unittest.TestCase):
    def test_small(self):
        for standing in small_standings(3, 2, 3):
            other = turned(standing)
            self.assertEqual((other.house, other.lift), (standing.house, standing.lift))
            self.assertEqual(other.groups, tuple(sorted((want, stand, many) for stand, want, many in standing.groups)))
            self.assertEqual(turned(other), standing)

    def test_great(self):
        source = random.Random(3)
        standing = great_standing(source, 10 ** 30, 7)
        self.assertEqual(turned(turned(standing)), standing)
        self.assertNotEqual(turned(standing), standing)
        rows = [(stand, want, 10 ** 31 + stand) for stand in range(40) for want in range(40)]
        crowded = standing_of(House(40, 3), 11, rows)
        self.assertEqual(turned(crowded).groups, tuple(sorted((want, stand, many) for stand, want, many in rows)))
        self.assertEqual(turned(turned(crowded)), crowded)

    def test_nobody(self):
        standing = Standing(House(3, 1), 2, ())
        self.assertEqual(turned(standing), standing)

    def test_argument_stays(self):
        groups = ((0, 2, 3), (1, 2, 1))
        standing = Standing(House(3, 2), 1, groups)
        turned(standing)
        self.assertEqual(standing.groups, groups)


class Ends(unittest.TestCase):
    def check_plan(self, standing, end):
        moves = plan_to(standing, end)
        self.assertIsInstance(moves, tuple)
        self.assertEqual(len(moves), rest_to(standing, end))
        last = behind(standing, moves)
        self.assertTrue(all_home(last))
        self.assertEqual(last.lift, end)

    def test_against_a_search(self):
        for floors, room, most in ((2, 1, 4), (2, 2, 5), (3, 1, 3), (3, 2, 3), (4, 1, 2), (4, 2, 2)):
            house = House(floors, room)
            for many in range(most + 1):
                for wants in combinations_with_replacement(range(floors), many):
                    for end in range(floors):
                        for (lift, groups), least in slow_rests(house, wants, end).items():
                            if lift == 0:
                                standing = Standing(house, 0, groups)
                                self.assertEqual(rest_to(standing, end), least)
                                self.check_plan(standing, end)

    def test_small_ends(self):
        one = Standing(House(2, 1), 0, ((0, 1, 1),))
        self.assertEqual(plan_to(one, 1), ((1, ((1, 1),)),))
        self.assertEqual(plan_to(one, 0), ((1, ((1, 1),)), DOWN))
        home = Standing(House(4, 1), 0, ((2, 2, 5),))
        for end in range(4):
            self.assertEqual(rest_to(home, end), end)
            self.assertEqual(plan_to(home, end), (UP,) * end)

    def test_on_the_ground_it_is_rest(self):
        for standing in small_standings(4, 2, 2):
            if standing.lift == 0:
                self.assertEqual(rest_to(standing, 0), rest(standing))

    def test_who_stands_together_with_unlike_wishes(self):
        # Those who want one floor backward come from unlike floors, and have to be told apart again.
        standing = Standing(House(4, 2), 0, ((0, 1, 2), (0, 2, 1), (0, 3, 2), (2, 0, 3), (2, 1, 1), (2, 3, 2)))
        for end in range(4):
            self.check_plan(standing, end)
            there = standing
            for move in plan_to(standing, end):
                there = slow_behind(there, move)
            self.assertTrue(all_home(there))

    def test_mixed_and_great(self):
        source = random.Random(4)
        start = time.perf_counter()
        for _ in range(300):
            house = House(source.randint(2, 9), source.randint(1, 6))
            rows = [(source.randrange(house.floors), source.randrange(house.floors), source.randint(1, 7))
                    for _ in range(source.randint(0, 12))]
            self.check_plan(standing_of(house, 0, rows), source.randrange(house.floors))
        for room in (60, 1000, 10 ** 12):
            standing = at_lift(great_standing(source, 20, room), 0)
            self.check_plan(standing, source.randrange(40))
        crowded = standing_of(House(40, 900), 0, [(stand, want, 50) for stand in range(40) for want in range(40)])
        self.check_plan(crowded, 17)
        self.assertLess(time.perf_counter() - start, 30)

    def test_enormous_rest(self):
        standing = Standing(House(2, 1), 0, ((0, 1, 10 ** 30),))
        self.assertEqual(rest_to(standing, 1), 2 * 10 ** 30 - 1)
        self.assertEqual(rest_to(standing, 0), 2 * 10 ** 30)


class Refused(unittest.TestCase):
    def test_not_ground_ahead_of_all(self):
        for thing in [*STRANGERS, 0, 1, 2, 3, -1, True, False]:
            for standing in (at_lift(STANDING, 1), at_lift(LIMIT, 1), at_lift(STANDING, 2)):
                for judge in (rest_to, plan_to):
                    with self.assertRaises(NotGround):
                        judge(standing, thing)

    def test_bad_floors_ahead_of_too_many(self):
        for thing in [*STRANGERS, 3, -1, True, False, 10 ** 30]:
            for standing in (STANDING, Standing(House(3, 1), 0, ((0, 1, 10 ** 30),)), Standing(House(3, 1), 0, ())):
                for judge in (rest_to, plan_to):
                    with self.assertRaises(BadFloor):
                        judge(standing, thing)

    def test_limit(self):
        self.assertEqual((rest_to(LIMIT, 0), rest_to(LIMIT, 1)), (5000, 5001))
        moves = plan_to(LIMIT, 0)
        self.assertEqual(len(moves), 5000)
        self.assertTrue(all_home(behind(LIMIT, moves)))
        upward = Standing(House(2, 1), 0, ((0, 1, 2500),))
        self.assertEqual(len(plan_to(upward, 1)), 4999)
        start = time.perf_counter()
        for standing, end in ((LIMIT, 1), (Standing(House(2, 1), 0, ((0, 1, 2501),)), 1),
                              (Standing(House(40, 1), 0, ((0, 39, 10 ** 30),)), 20)):
            with self.assertRaises(TooMany) as caught:
                plan_to(standing, end)
            self.assertEqual(caught.exception.limit, 5000)
            self.assertGreater(rest_to(standing, end), 5000)
        self.assertLess(time.perf_counter() - start, 1)


if __name__ == "__main__":
    unittest.main()
