import random
import time
import unittest
from collections import Counter

from tests.small import STANDING, STRANGERS, key_of, slow_behind, slow_plans, slow_rests, small_standings
from willinglift.counting import (first_moves, many_plans, plan_at, plan_index, settled_after, soonest_settled)
from willinglift.errors import BadFloor, BadNumber, NoPlan, TooMany
from willinglift.gaps import rest
from willinglift.houses import House, Standing, is_done, standing_of
from willinglift.moves import is_plan, moved
from willinglift.plans import plan
from willinglift.silly import silly_in
from willinglift.wise import wise_moves

UP, DOWN = (1, ()), (-1, ())
DONE = Standing(House(3, 2), 0, ((0, 0, 4), (2, 2, 1)))
# Just 20000 standings come up, one behind another, and one more.
CHAIN = Standing(House(2, 1), 1, ((0, 1, 9999),))
LONGER = Standing(House(2, 1), 0, ((0, 1, 10000),))
# Just 20000 moves, and one more, though only one of them is not silly.
CROWD = Standing(House(2, 10 ** 12), 1, ((1, 1, 19999),))
GREATER = Standing(House(2, 10 ** 12), 1, ((1, 1, 20000),))


def listed_plans(standing):
    wants = [want for _, want, many in standing.groups for _ in range(many)]
    return sorted(slow_plans(standing, slow_rests(standing.house, wants)))


def settles_after(standing, moves, floor):
    """Behind how many moves all who want a floor stand there until the end."""
    last = 0
    for many in range(len(moves) + 1):
        if any(want == floor and stand != want for stand, want, _ in standing.groups):
            last = many + 1
        if many < len(moves):
            standing = slow_behind(standing, moves[many])
    return last


def some_standings():
    for floors, room, most in ((2, 1, 4), (2, 2, 4), (3, 1, 2), (3, 2, 2)):
        yield from small_standings(floors, room, most)
    source = random.Random(6)
    found = 0
    while found < 60:
        house = House(source.randint(2, 4), source.randint(1, 3))
        rows = [(source.randrange(house.floors), source.randrange(house.floors), 1) for _ in range(3)]
        standing = standing_of(house, source.randrange(house.floors), rows)
        if many_plans(standing) < 500:
            found += 1
            yield standing


class Listed(unittest.TestCase):
    def test_against_a_list(self):
        for standing in some_standings():
            plans = listed_plans(standing)
            self.assertEqual(many_plans(standing), len(plans))
            for index in sorted({0, 1, len(plans) // 3, len(plans) // 2, len(plans) - 1}):
                if index < len(plans):
                    self.assertEqual(plan_at(standing, index), plans[index])
                    self.assertEqual(plan_index(standing, plans[index]), index)
            first = Counter(moves[0] for moves in plans if moves)
            self.assertEqual(first_moves(standing), sorted(first.items()))

    def test_all_of_some(self):
        for standing in (Standing(House(3, 2), 0, ((0, 2, 3), (1, 2, 1), (2, 0, 1), (2, 1, 1))),
                         Standing(House(3, 2), 1, ((0, 0, 1), (0, 2, 3), (2, 0, 2))),
                         Standing(House(2, 5), 0, ((0, 0, 2), (0, 1, 7), (1, 0, 2)))):
            plans = [plan_at(standing, index) for index in range(many_plans(standing))]
            self.assertEqual(plans, sorted(set(plans)))
            self.assertEqual([plan_index(standing, moves) for moves in plans], list(range(len(plans))))
            self.assertTrue(all(is_plan(standing, moves) and not silly_in(standing, moves) for moves in plans))
            self.assertEqual(sum(many for _, many in first_moves(standing)), len(plans))
            self.assertGreater(len(plans), 10)

    def test_settled(self):
        for standing in some_standings():
            plans = listed_plans(standing)
            for floor in range(standing.house.floors):
                found = Counter(settles_after(standing, moves, floor) for moves in plans)
                self.assertEqual(settled_after(standing, floor), sorted(found.items()))
                many, moves = soonest_settled(standing, floor)
                self.assertEqual(many, min(found))
                self.assertIn(moves, plans)
                self.assertEqual(settles_after(standing, moves, floor), many)

    def test_settled_again(self):
        # Who is home may be taken along, and comes home once more.
        standing = Standing(House(3, 2), 0, ((0, 2, 1), (1, 1, 1)))
        self.assertEqual(settled_after(standing, 1), [(0, 1), (3, 1)])
        self.assertEqual(soonest_settled(standing, 1)[0], 0)
        self.assertEqual(settled_after(standing, 2), [(2, 2)])
        self.assertEqual(settled_after(standing, 0), [(0, 2)])

    def test_done(self):
        self.assertEqual(many_plans(DONE), 1)
        self.assertEqual(plan_at(DONE, 0), ())
        self.assertEqual(plan_index(DONE, ()), 0)
        self.assertEqual(first_moves(DONE), [])
        for floor in range(3):
            self.assertEqual(settled_after(DONE, floor), [(0, 1)])
            self.assertEqual(soonest_settled(DONE, floor), (0, ()))

    def test_new_each_time(self):
        for call in (lambda: first_moves(STANDING), lambda: settled_after(STANDING, 2)):
            one = call()
            self.assertIsInstance(one, list)
            one.append(None)
            self.assertNotIn(None, call())


class Crowds(unittest.TestCase):
    """Greater groups, for which all standings are found by wise moves, one behind another."""

    def counted(self, standing, known):
        if key_of(standing) not in known:
            behind_each = [self.counted(moved(standing, move), known) for move in wise_moves(standing)]
            known[key_of(standing)] = sum(behind_each) if behind_each else 1
        return known[key_of(standing)]

    def test_against_wise_moves(self):
        source = random.Random(12)
        for _ in range(120):
            house = House(source.randint(2, 4), source.randint(1, 4))
            rows = [(floor, floor, source.choice((1, 30, 10 ** 30))) for floor in range(house.floors)]
            rows = source.sample(rows, source.randint(0, 2))
            rows += [(source.randrange(house.floors), source.randrange(house.floors), source.randint(1, 4))
                     for _ in range(3)]
            standing = standing_of(house, source.randrange(house.floors), rows)
            known = {}
            try:
                many = many_plans(standing)
            except TooMany:
                continue
            if many < 10 ** 5:
                self.assertEqual(many, self.counted(standing, known))
                self.assertEqual(first_moves(standing), [(move, known[key_of(moved(standing, move))])
                                                         for move in wise_moves(standing)])
                index = source.randrange(many)
                self.assertEqual(plan_index(standing, plan_at(standing, index)), index)


class Refused(unittest.TestCase):
    def test_bad_numbers(self):
        many = many_plans(STANDING)
        for thing in [*STRANGERS, -1, many, True, False]:
            with self.assertRaises(BadNumber):
                plan_at(STANDING, thing)
        self.assertTrue(plan_at(STANDING, many - 1))
        with self.assertRaises(BadNumber):
            plan_at(DONE, 1)

    def test_no_plans(self):
        moves = plan(STANDING)
        for thing in [*STRANGERS, moves[:-1], moves + (UP, DOWN), (UP, DOWN) + moves, list(moves),
                      tuple(map(list, moves)), ((True, moves[0][1]),) + moves[1:], moves + (UP,)]:
            with self.assertRaises(NoPlan):
                plan_index(STANDING, thing)
        with self.assertRaises(NoPlan):
            plan_index(DONE, (UP, DOWN))

    def test_bad_floors(self):
        for thing in [*STRANGERS, -1, 3, True, False]:
            for standing in (STANDING, DONE, Standing(House(3, 1), 0, ((0, 1, 10 ** 30),))):
                for judge in (settled_after, soonest_settled):
                    with self.assertRaises(BadFloor):
                        judge(standing, thing)


class Limits(unittest.TestCase):
    def calls(self, standing, thing):
        return (lambda: many_plans(standing), lambda: plan_at(standing, thing), lambda: plan_index(standing, thing),
                lambda: first_moves(standing), lambda: settled_after(standing, 1), lambda: soonest_settled(standing, 1))

    def too_many(self, standing):
        # Where there are too many this is told ahead of what is wrong with numbers and plans.
        for thing in (0, None, (), "x"):
            for call in self.calls(standing, thing):
                with self.assertRaises(TooMany) as caught:
                    call()
                self.assertEqual(caught.exception.limit, 20000)

    def test_just_let(self):
        self.assertEqual(rest(CHAIN), 19999)
        self.assertEqual(many_plans(CHAIN), 1)
        moves = plan_at(CHAIN, 0)
        self.assertEqual(moves, (DOWN,) + ((1, ((1, 1),)), DOWN) * 9999)
        self.assertEqual(plan_index(CHAIN, moves), 0)
        self.assertEqual(first_moves(CHAIN), [(DOWN, 1)])
        self.assertEqual(settled_after(CHAIN, 1), [(19998, 1)])
        self.assertEqual(soonest_settled(CHAIN, 1), (19998, moves))
        self.assertEqual(settled_after(CHAIN, 0), [(0, 1)])

    def test_too_many_standings(self):
        self.assertEqual(rest(LONGER), 20000)
        self.too_many(LONGER)

    def test_moves_just_let(self):
        self.assertEqual(many_plans(CROWD), 1)
        self.assertEqual(plan_at(CROWD, 0), (DOWN,))
        self.assertEqual(plan_index(CROWD, (DOWN,)), 0)
        self.assertEqual(settled_after(CROWD, 1), [(0, 1)])

    def test_too_many_moves(self):
        self.too_many(GREATER)
        # The crowd stands at a floor that is come to later.
        self.too_many(Standing(House(3, 10 ** 12), 0, ((0, 1, 1), (1, 1, 20000))))
        # Moves of the last standing, behind which all is done, do not count.
        last = Standing(House(2, 10 ** 12), 1, ((0, 0, 10 ** 30),))
        self.assertEqual(many_plans(last), 1)
        self.assertEqual(many_plans(Standing(House(2, 10 ** 12), 0, ((0, 0, 10 ** 30),))), 1)

    def test_enormous_ones_are_refused_soon(self):
        start = time.perf_counter()
        for standing in (Standing(House(40, 1), 0, tuple((0, want, 10 ** 30) for want in range(40))),
                         standing_of(House(40, 10 ** 12), 20, [(stand, want, 10 ** 30) for stand in range(40)
                                                               for want in range(40)]),
                         Standing(House(40, 2), 0, tuple((stand, 39 - stand, 5) for stand in range(40)))):
            with self.assertRaises(TooMany):
                many_plans(standing)
        self.assertLess(time.perf_counter() - start, 10)


class Great(unittest.TestCase):
    def test_some_thousand_standings(self):
        start = time.perf_counter()
        for standing in (Standing(House(4, 2), 0, tuple((0, want, 3) for want in range(4))),
                         Standing(House(2, 100), 0, ((0, 0, 100), (0, 1, 150))),
                         Standing(House(6, 2), 3, ((0, 5, 3), (1, 3, 2), (4, 1, 3), (5, 5, 1)))):
            self.assertFalse(is_done(standing))
            many = many_plans(standing)
            for index in (0, many // 2, many - 1):
                moves = plan_at(standing, index)
                self.assertEqual(plan_index(standing, moves), index)
                self.assertTrue(is_plan(standing, moves) and not silly_in(standing, moves))
            self.assertLess(plan_at(standing, many // 2), plan_at(standing, many // 2 + 1))
            self.assertEqual(sum(number for _, number in first_moves(standing)), many)
            for floor in range(standing.house.floors):
                settled = settled_after(standing, floor)
                self.assertEqual(sum(number for _, number in settled), many)
                least, moves = soonest_settled(standing, floor)
                self.assertEqual(least, settled[0][0])
                self.assertEqual(settles_after(standing, moves, floor), least)
        self.assertLess(time.perf_counter() - start, 30)


if __name__ == "__main__":
    unittest.main()
