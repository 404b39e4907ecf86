import random
import time
import unittest

from tests.small import STANDING, STRANGERS, slow_plans, slow_rests, small_standings
from tests.test_counting import CHAIN, CROWD, GREATER, LONGER
from tests.test_stays import DONE, slow_most_held
from willinglift.counting import many_plans
from willinglift.errors import BadFloor, TooMany
from willinglift.houses import House, Standing, standing_of
from willinglift.moves import is_plan
from willinglift.peaks import least_peak, most_held_ever
from willinglift.plans import plan
from willinglift.silly import silly_in
from willinglift.stays import most_held

DOWN = (-1, ())


def some_standings():
    for floors, room, most in ((2, 1, 4), (2, 2, 4), (3, 1, 2), (3, 2, 2), (4, 1, 2)):
        yield from small_standings(floors, room, most)
    source = random.Random(71)
    found = 0
    while found < 80:
        house = House(source.randint(2, 5), source.randint(1, 3))
        rows = [(source.randrange(house.floors), source.randrange(house.floors), source.randint(1, 2))
                for _ in range(3)]
        standing = standing_of(house, source.randrange(house.floors), rows)
        if many_plans(standing) < 400:
            found += 1
            yield standing


class Peaks(unittest.TestCase):
    def check(self, standing, floor):
        found = least_peak(standing, floor)
        self.assertIsInstance(found, tuple)
        number, moves = found
        self.assertTrue(is_plan(standing, moves))
        self.assertEqual(silly_in(standing, moves), [])
        self.assertEqual(most_held(standing, moves)[floor], number)
        return number

    def test_against_all_plans(self):
        unlike = 0
        for standing in some_standings():
            wants = [want for _, want, many in standing.groups for _ in range(many)]
            rows = [slow_most_held(standing, moves)
                    for moves in slow_plans(standing, slow_rests(standing.house, wants))]
            self.assertEqual(most_held_ever(standing), tuple(map(max, zip(*rows))))
            for floor in range(standing.house.floors):
                least = min(row[floor] for row in rows)
                self.assertEqual(self.check(standing, floor), least)
                unlike += least < most_held_ever(standing)[floor]
        self.assertGreater(unlike, 100)

    def test_by_hand(self):
        standing = Standing(House(3, 2), 0, ((0, 2, 4),))
        # Two at a time pass the floor between, or all four wait there for one another.
        self.assertEqual(most_held_ever(standing), (4, 4, 4))
        self.assertEqual([self.check(standing, floor) for floor in range(3)], [4, 2, 4])

    def test_done(self):
        self.assertEqual(most_held_ever(DONE), (4, 0, 1))
        for floor, many in enumerate((4, 0, 1)):
            self.assertEqual(least_peak(DONE, floor), (many, ()))

    def test_just_let(self):
        self.assertEqual(most_held_ever(CHAIN), (9999, 9999))
        self.assertEqual(least_peak(CHAIN, 0), (9999, (DOWN,) + ((1, ((1, 1),)), DOWN) * 9999))
        self.assertEqual(most_held_ever(CROWD), (0, 19999))
        self.assertEqual(least_peak(CROWD, 1), (19999, (DOWN,)))
        last = Standing(House(2, 10 ** 12), 0, ((0, 0, 10 ** 30),))
        self.assertEqual(most_held_ever(last), (10 ** 30, 0))

    def test_too_many(self):
        start = time.perf_counter()
        for standing in (LONGER, GREATER, Standing(House(3, 10 ** 12), 0, ((0, 1, 1), (1, 1, 20000))),
                         Standing(House(40, 1), 0, tuple((0, want, 10 ** 30) for want in range(40)))):
            for call in (lambda: most_held_ever(standing), lambda: least_peak(standing, 1)):
                with self.assertRaises(TooMany) as caught:
                    call()
                self.assertEqual(caught.exception.limit, 20000)
        self.assertLess(time.perf_counter() - start, 15)

    def test_bad_floors_ahead_of_too_many(self):
        for thing in [*STRANGERS, -1, 3, True, False]:
            for standing in (STANDING, DONE, Standing(House(3, 1), 0, ((0, 1, 10 ** 30),))):
                with self.assertRaises(BadFloor):
                    least_peak(standing, thing)

    def test_some_thousand_standings(self):
        start = time.perf_counter()
        for standing in (Standing(House(4, 2), 0, tuple((0, want, 3) for want in range(4))),
                         Standing(House(6, 2), 3, ((0, 5, 3), (1, 3, 2), (4, 1, 3), (5, 5, 1)))):
            most = most_held_ever(standing)
            for floor, many in enumerate(most_held(standing, plan(standing))):
                self.assertTrue(self.check(standing, floor) <= many <= most[floor])
        self.assertLess(time.perf_counter() - start, 15)

    def test_equal_standings(self):
        other = Standing(House(3, 2), 0, STANDING.groups)
        self.assertEqual(most_held_ever(STANDING), most_held_ever(other))
        self.assertEqual(least_peak(STANDING, 1), least_peak(other, 1))


if __name__ == "__main__":
    unittest.main()
