import random
import time
import unittest
from collections import defaultdict
from itertools import product

from tests.small import HOUSE, STANDING, STRANGERS, great_standing, slow_behind, slow_moves, small_standings
from willinglift.errors import BadSeen, TooMany
from willinglift.gaps import rest
from willinglift.houses import House, Standing, is_done, standing_of
from willinglift.moves import is_plan
from willinglift.plans import plan
from willinglift.seen import seen_plan, seen_plans

UP, DOWN = (1, ()), (-1, ())
DONE = Standing(HOUSE, 0, ((0, 0, 4), (2, 2, 1)))
# Just 20000 moves, and one more.
CROWD = Standing(House(2, 10 ** 12), 1, ((1, 1, 19999),))
GREATER = Standing(House(2, 10 ** 12), 1, ((1, 1, 20000),))


def seen_of(moves):
    return tuple((way, sum(many for _, many in aboard)) for way, aboard in moves)


def rows_of_moves(standing, many):
    """All rows of so many moves, with the standing behind them."""
    rows = [((), standing)]
    for _ in range(many):
        rows = [(moves + (move,), slow_behind(there, move)) for moves, there in rows for move in slow_moves(there)]
    return rows


class Small(unittest.TestCase):
    def compare(self, standing, many, most):
        plans = defaultdict(list)
        for moves, there in rows_of_moves(standing, many):
            if is_done(there):
                plans[seen_of(moves)].append(moves)
        for ways in product((1, -1), repeat=many):
            for numbers in product(range(most + 1), repeat=many):
                seen = tuple(zip(ways, numbers))
                self.assertEqual(seen_plans(standing, seen), len(plans[seen]))
                self.assertEqual(seen_plan(standing, seen), min(plans[seen], default=None))
        return plans

    def test_two_floors(self):
        for standing in small_standings(2, 2, 3):
            for many in range(4):
                self.compare(standing, many, 3)

    def test_three_floors(self):
        for standing in small_standings(3, 1, 2):
            self.compare(standing, 3, 2)

    def test_drawn(self):
        source = random.Random(91)
        most = 0
        for _ in range(25):
            house = House(source.randint(2, 3), source.randint(1, 3))
            rows = [(source.randrange(house.floors), source.randrange(house.floors), source.randint(1, 2))
                    for _ in range(2)]
            standing = standing_of(house, source.randrange(house.floors), rows)
            plans = defaultdict(list)
            for moves, there in rows_of_moves(standing, 4):
                if is_done(there):
                    plans[seen_of(moves)].append(moves)
            for seen, like in plans.items():
                self.assertEqual(seen_plans(standing, seen), len(like))
                self.assertEqual(seen_plan(standing, seen), min(like))
                most = max(most, len(like))
        self.assertGreater(most, 2)

    def test_silly_plans_and_others(self):
        moves = plan(STANDING)
        for longer in (moves, (UP, DOWN) + moves, moves + (UP, UP, DOWN, DOWN)):
            seen = seen_of(longer)
            self.assertGreater(seen_plans(STANDING, seen), 0)
            found = seen_plan(STANDING, seen)
            self.assertTrue(is_plan(STANDING, found))
            self.assertEqual(seen_of(found), seen)
            self.assertLessEqual(found, longer)
        # All is done amid the way, too.
        self.assertEqual(seen_plans(DONE, ((1, 2), (-1, 2))), 1)
        self.assertEqual(seen_plan(DONE, ((1, 2), (-1, 2))), ((1, ((0, 2),)), (-1, ((0, 2),))))

    def test_no_plan(self):
        for seen in (((-1, 0),), ((1, 0), (1, 0), (1, 0)), ((1, 3), (-1, 0)), ((1, 10 ** 39),), ((1, 0),),
                     ((1, 0), (-1, 10 ** 12 + 1)), ((-1, 0), (1, 0)) * 40, ((1, 2), (1, 2), (1, 2), (-1, 0))):
            for standing in (STANDING, DONE):
                self.assertEqual(seen_plans(standing, seen), 0)
                self.assertIsNone(seen_plan(standing, seen))

    def test_nothing_seen(self):
        self.assertEqual((seen_plans(DONE, ()), seen_plan(DONE, ())), (1, ()))
        self.assertEqual((seen_plans(STANDING, ()), seen_plan(STANDING, ())), (0, None))
        self.assertEqual(seen_plans(Standing(HOUSE, 1, ()), ()), 0)


class Great(unittest.TestCase):
    def two_kinds(self, room, many, seen):
        """How many plans carry so many from floor 0 to floor 1, where those who are home may come along."""
        rows = {(0, 0): 1}
        for way, number in seen:
            later = defaultdict(int)
            for (others, there), often in rows.items():
                for taken in range(number + 1):
                    some = number - taken
                    if way == 1 and there + some <= many or way == -1 and taken <= others and some <= there:
                        later[others + way * taken, there + way * some] += often
            rows = later
        return rows[0, many]

    def test_crowds(self):
        # Of those who are home so many take part as there are seats left, and come home again.
        standing = Standing(House(2, 10), 0, ((0, 0, 10 ** 30), (0, 1, 30)))
        seen = ((1, 10), (-1, 0)) * 3
        self.assertEqual(seen_plans(standing, seen), 1)
        self.assertEqual(seen_plan(standing, seen), ((1, ((1, 10),)), DOWN) * 3)
        seen = ((1, 10), (-1, 1)) * 3 + ((1, 3), (-1, 0))
        self.assertEqual(seen_plans(standing, seen), self.two_kinds(10, 30, seen))
        seen = ((1, 10), (-1, 7), (1, 9), (-1, 3)) * 3 + ((1, 7), (-1, 4), (1, 0), (-1, 0))
        self.assertEqual(seen_plans(standing, seen), self.two_kinds(10, 30, seen))
        seen = ((1, 10), (-1, 1)) * 3 + ((1, 3), (-1, 0))
        found = seen_plan(standing, seen)
        self.assertTrue(is_plan(standing, found))
        self.assertEqual(seen_of(found), seen)
        self.assertEqual(found[0], (1, ((0, 1), (1, 9))))

    def test_by_formula(self):
        # The two groups come up one behind another: of k the first time, of the others the second time.
        for first, second, room in ((5, 7, 7), (30, 30, 30), (20, 60, 60), (60, 20, 60)):
            standing = Standing(House(3, room), 0, ((0, 1, first), (0, 2, second)))
            both = first + second
            seen = ((1, room), (-1, 0), (1, both - room), (1, second), (-1, 0), (-1, 0))
            many = sum(1 for k in range(room + 1) if k <= first and room - k <= second)
            # Those who go on to floor 2 are just its group, or it would not be a plan.
            self.assertEqual(seen_plans(standing, seen), many)
            least = min(tuple((want, some) for want, some in ((1, k), (2, room - k)) if some)
                        for k in range(room + 1) if k <= first and room - k <= second)
            self.assertEqual(seen_plan(standing, seen)[0], (1, least))

    def test_answered_soon(self):
        start = time.perf_counter()
        standing = great_standing(random.Random(92), 3, 3, groups=60)
        moves = plan(standing)
        seen = seen_of(moves)
        with self.assertRaises(TooMany):
            seen_plans(standing, seen)
        lone = Standing(House(40, 5), 39, ((0, 39, 10 ** 30), (39, 0, 4)))
        self.assertEqual(seen_plans(lone, seen_of(((-1, ((0, 4),)),) * 39)), 0)
        self.assertEqual(seen_plan(Standing(House(40, 5), 39, ((39, 0, 4),)), ((-1, 4),) * 39), ((-1, ((0, 4),)),) * 39)
        there = Standing(House(4, 2), 0, ((0, 1, 4), (0, 2, 4), (2, 1, 4), (3, 0, 4)))
        moves = plan(there)
        self.assertEqual(len(moves), rest(there))
        self.assertGreater(seen_plans(there, seen_of(moves)), 0)
        self.assertLessEqual(seen_plan(there, seen_of(moves)), moves)
        self.assertLess(time.perf_counter() - start, 20)


class Refused(unittest.TestCase):
    def refused(self, index, standing, seen):
        for call in (seen_plans, seen_plan):
            with self.assertRaises(BadSeen) as caught:
                call(standing, seen)
            self.assertEqual(caught.exception.index, index, seen)

    def test_no_tuples(self):
        for thing in STRANGERS:
            if not isinstance(thing, tuple):
                self.refused(-1, STANDING, thing)
                self.refused(-1, GREATER, thing)
        self.refused(-1, STANDING, [(1, 0)])

    def test_first_thing_that_is_no_pair(self):
        wrong = [*STRANGERS, (1,), (1, 0, 0), [1, 0], (0, 0), (2, 0), (1, -1), (True, 0), (1, False), (1, True),
                 ("1", 0), (1, "0"), (1, None), (None, 1), (1, 0.5), (1.0, 0), (1, (0,))]
        for thing in wrong:
            for many in range(3):
                # What is no move of the standing is such a pair all the same.
                self.refused(many, STANDING, ((-1, 10 ** 39), (1, 0))[:many] + (thing, None))
                self.refused(many, GREATER, ((-1, 0), (1, 0))[:many] + (thing,))


class Limits(unittest.TestCase):
    def too_many(self, standing, seen):
        for call in (seen_plans, seen_plan):
            with self.assertRaises(TooMany) as caught:
                call(standing, seen)
            self.assertEqual(caught.exception.limit, 20000)

    def none(self, standing, seen):
        self.assertEqual(seen_plans(standing, seen), 0)
        self.assertIsNone(seen_plan(standing, seen))

    def test_moves(self):
        self.assertEqual(seen_plans(CROWD, ((-1, 0),)), 1)
        self.assertEqual(seen_plan(CROWD, ((-1, 0),)), (DOWN,))
        self.too_many(GREATER, ((-1, 0),))
        # The moves do not lead to a floor, or nowhere, but there are too many all the same.
        self.too_many(GREATER, ((1, 0),))
        self.too_many(GREATER, ((-1, 10 ** 39),))
        self.none(GREATER, ())
        self.assertEqual(seen_plans(Standing(House(2, 10 ** 12), 0, ((0, 0, 10 ** 30),)), ()), 1)

    def test_moves_of_later_standings(self):
        later = Standing(House(3, 10 ** 12), 0, ((1, 1, 20000),))
        self.none(later, ((1, 0),))
        self.too_many(later, ((1, 0), (-1, 0)))
        # It is not come to.
        self.none(later, ((1, 1), (-1, 0)))
        self.assertEqual(seen_plans(Standing(House(3, 10 ** 12), 0, ((1, 1, 9999),)), ((1, 0), (-1, 0))), 1)
        self.too_many(Standing(House(3, 10 ** 12), 0, ((1, 1, 10000),)), ((1, 0), (-1, 0)))

    def crowded(self, sizes):
        """A standing from which so many times so many times so many standings, and 1 for each, are come to."""
        one, two, three = sizes
        groups = ((0, 1, one), (0, 2, one), (3, 3, two), (3, 4, two), (5, 0, three), (5, 5, three))
        seen = ((1, one), (1, 0), (1, 0), (1, two), (1, 0), (-1, three))
        return Standing(House(6, max(sizes)), 0, groups), seen

    def test_standings(self):
        start = time.perf_counter()
        standing, seen = self.crowded((49, 19, 19))
        self.none(standing, seen)
        standing, seen = self.crowded((2, 58, 112))
        self.too_many(standing, seen)
        self.none(standing, seen[:-1])
        self.too_many(standing, seen + ((1, 10 ** 39),))
        self.assertLess(time.perf_counter() - start, 10)

    def test_standings_that_lead_nowhere(self):
        standing, seen = self.crowded((49, 19, 19))
        # From those that are come to there are no such moves; then there are no standings, and not too many.
        self.none(standing, seen[:4] + ((1, 50),) + ((1, 0), (-1, 0)) * 20)


class Unchanged(unittest.TestCase):
    def test_equal_answers(self):
        moves = plan(STANDING)
        seen = seen_of(moves)
        self.assertEqual(seen_plan(STANDING, seen), seen_plan(Standing(HOUSE, 0, STANDING.groups), tuple(list(seen))))
        self.assertEqual(seen_plans(STANDING, seen), seen_plans(STANDING, seen))
        self.assertEqual(STANDING.groups, ((0, 2, 3), (1, 2, 1)))


if __name__ == "__main__":
    unittest.main()
