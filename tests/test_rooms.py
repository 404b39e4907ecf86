import random
import time
import unittest
from itertools import combinations_with_replacement

from tests.small import STANDING, STRANGERS, a_function, at_lift, great_standing, small_standings
from willinglift.errors import BadAnswer, BadLoads, BadNumber, BadRoom, NotGround
from willinglift.gaps import counts, number, numbers, rest
from willinglift.houses import House, Standing, people, standing_of
from willinglift.rooms import (least_room, loads, loads_back, rest_for, rooms_for, standing_with, thinned, unlike_room)

GREAT = 10 ** 30
DONE = Standing(House(3, 2), 0, ((0, 0, 4), (2, 2, 1)))


def in_room(standing, room):
    return Standing(House(standing.house.floors, room), standing.lift, standing.groups)


class Rests(unittest.TestCase):
    def test_all_rooms_of_small_ones(self):
        for standing in small_standings(3, 2, 4):
            for room in range(1, 7):
                self.assertEqual(rest_for(standing, room), rest(in_room(standing, room)))
            self.assertEqual(rest_for(standing, 10 ** 39), rest(in_room(standing, 10 ** 12)))

    def test_great_rooms(self):
        standing = Standing(House(2, 1), 0, ((0, 1, GREAT),))
        self.assertEqual(rest_for(standing, 1), 2 * GREAT)
        self.assertEqual(rest_for(standing, GREAT - 1), 4)
        self.assertEqual(rest_for(standing, GREAT), 2)
        self.assertEqual(rest_for(standing, GREAT // 2), 4)
        self.assertEqual(rest_for(standing, GREAT // 2 - 1), 6)
        self.assertEqual(rest_for(standing, 10 ** 300), 2)
        self.assertEqual(rest_for(at_lift(standing, 1), GREAT), 3)

    def test_room_of_the_house_does_not_matter(self):
        for room in (1, 2, 10 ** 12):
            self.assertEqual(rest_for(in_room(STANDING, room), 1), 14)

    def test_bad_rooms(self):
        for thing in [*STRANGERS, 0, -1, True, False]:
            if thing != 10 ** 39 or isinstance(thing, bool):
                for standing in (STANDING, DONE, at_lift(STANDING, 2)):
                    with self.assertRaises(BadRoom):
                        rest_for(standing, thing)


class LeastRooms(unittest.TestCase):
    def check(self, standing, most, numbers_asked):
        rests = [rest_for(standing, room) for room in range(1, most + 1)]
        for many in numbers_asked(rests):
            enough = [room for room in range(1, most + 1) if rests[room - 1] <= many]
            just = [room for room in range(1, most + 1) if rests[room - 1] == many]
            self.assertEqual(least_room(standing, many), enough[0] if enough else None)
            if not just:
                self.assertIsNone(rooms_for(standing, many))
            else:
                # In the last room that is gone through everybody has place, so that no room beyond is better.
                greatest = None if just[-1] == most else just[-1]
                self.assertEqual(rooms_for(standing, many), (just[0], greatest))

    def test_all_numbers_of_small_ones(self):
        for standing in small_standings(3, 2, 4):
            self.check(standing, 6, lambda rests: range(rests[0] + 3))
        for standing in small_standings(4, 2, 2):
            self.check(standing, 4, lambda rests: range(rests[0] + 3))

    def test_mixed(self):
        source = random.Random(13)
        for _ in range(60):
            house = House(source.randint(2, 12), source.randint(1, 9))
            rows = [(source.randrange(house.floors), source.randrange(house.floors), source.randint(1, 40))
                    for _ in range(source.randint(0, 9))]
            standing = standing_of(house, source.randrange(house.floors), rows)
            self.check(standing, people(standing) + 2, lambda rests: sorted(
                {abs(some + by) for some in rests for by in (-1, 0, 1)} | {0, 1, 10 ** 39}))

    def test_great_ones(self):
        standing = Standing(House(3, 5), 0, ((0, 1, GREAT), (1, 2, GREAT - 1)))
        self.assertEqual(least_room(standing, 0), None)
        self.assertEqual(least_room(standing, 3), None)
        self.assertEqual(least_room(standing, 4), GREAT)
        self.assertEqual(least_room(standing, 6), GREAT - 1)
        self.assertEqual(least_room(standing, 4 * GREAT - 2), 1)
        self.assertEqual(least_room(standing, 4 * GREAT - 3), 2)
        self.assertEqual(rooms_for(standing, 4), (GREAT, None))
        self.assertEqual(rooms_for(standing, 6), (GREAT - 1, GREAT - 1))
        self.assertEqual(rooms_for(standing, 7), None)
        self.assertEqual(rooms_for(standing, 4 * GREAT - 2), (1, 1))
        self.assertEqual(rooms_for(standing, 4 * GREAT - 1), None)
        self.assertEqual(rooms_for(standing, 10 ** 39), None)
        crowd = standing_of(House(40, 1), 3, [(stand, want, GREAT) for stand in range(40) for want in range(40)])
        start = time.perf_counter()
        for many in (200, 1000, 10 ** 6, 10 ** 33):
            room = least_room(crowd, many)
            self.assertLessEqual(rest_for(crowd, room), many)
            self.assertGreater(rest_for(crowd, room - 1), many)
            pair = rooms_for(crowd, rest_for(crowd, room))
            self.assertEqual(pair[0], room)
            self.assertEqual(rest_for(crowd, pair[1]), rest_for(crowd, room))
            self.assertLess(rest_for(crowd, pair[1] + 1), rest_for(crowd, room))
        self.assertLess(time.perf_counter() - start, 5)

    def test_done(self):
        for standing in (DONE, Standing(House(2, 9), 0, ())):
            self.assertEqual(least_room(standing, 0), 1)
            self.assertEqual(least_room(standing, 5), 1)
            self.assertEqual(rooms_for(standing, 0), (1, None))
            self.assertEqual(rooms_for(standing, 1), None)

    def test_bad_numbers(self):
        for thing in [*STRANGERS, -1, True, False]:
            if thing != 10 ** 39 or isinstance(thing, bool):
                for standing in (STANDING, DONE):
                    for judge in (least_room, rooms_for):
                        with self.assertRaises(BadNumber):
                            judge(standing, thing)


def ground_standings(floors, most):
    return [standing for standing in small_standings(floors, 1, most) if standing.lift == 0]


class Loads(unittest.TestCase):
    def test_as_the_gaps_tell(self):
        for standing in ground_standings(4, 3):
            told = [counts(standing, gap) for gap in range(3)]
            self.assertEqual(loads(standing), tuple(sorted(
                filter(None, (max(up, down, int(left)) for up, down, left in told)))))
        self.assertEqual(loads(DONE), ())
        self.assertEqual(loads(Standing(House(4, 1), 0, ((2, 3, 1),))), (1, 1, 1))
        self.assertEqual(loads(Standing(House(3, 1), 0, ((0, 1, GREAT), (2, 0, 7)))), (7, GREAT))
        self.assertIs(type(loads(Standing(House(3, 1), 0, ((0, 2, 1),)))[0]), int)

    def test_sixth_fact(self):
        standings = ground_standings(2, 4) + ground_standings(3, 2) + ground_standings(4, 2)[::2]
        rooms = range(1, 6)
        rests = [[rest_for(standing, room) for room in rooms] for standing in standings]
        alike = 0
        for one, ones in zip(standings, rests):
            for other, others in zip(standings, rests):
                room = unlike_room(one, other)
                self.assertEqual(room is None, ones == others)
                self.assertEqual(room is None, loads(one) == loads(other))
                if room is None:
                    alike += 1
                else:
                    self.assertNotEqual(rest_for(one, room), rest_for(other, room))
        self.assertGreater(alike, len(standings))

    def test_unlike_rooms_of_great_ones(self):
        source = random.Random(14)
        for _ in range(500):
            pool = [source.randint(1, GREAT) for _ in range(3)] + [1, 2, 3, GREAT, GREAT - 1]
            one, other = (standing_with(tuple(sorted(source.choice(pool) for _ in range(source.randint(1, 5)))))
                          for _ in range(2))
            room = unlike_room(one, other)
            if loads(one) == loads(other):
                self.assertIsNone(room)
            else:
                self.assertNotEqual(rest_for(one, room), rest_for(other, room))
        alike = Standing(House(9, 7), 0, ((0, 4, GREAT - 1), (1, 3, 1)))
        self.assertIsNone(unlike_room(standing_with((GREAT - 1, GREAT - 1, GREAT, GREAT)), alike))
        self.assertIsNone(unlike_room(DONE, Standing(House(2, 9), 0, ())))

    def test_not_ground(self):
        off = at_lift(STANDING, 1)
        with self.assertRaises(NotGround):
            loads(off)
        for one, other in ((off, STANDING), (STANDING, off), (off, off), (off, at_lift(DONE, 2)), (DONE, off)):
            with self.assertRaises(NotGround):
                unlike_room(one, other)


class LoadsBack(unittest.TestCase):
    def ask(self, standing):
        def told(room):
            self.asked += 1
            self.assertIs(type(room), int)
            self.assertTrue(1 <= room <= GREAT)
            return rest_for(standing, room)
        self.asked = 0
        return told

    def test_small(self):
        for standing in ground_standings(4, 3):
            self.assertEqual(loads_back(self.ask(standing), 3), loads(standing))
            self.assertEqual(loads_back(self.ask(standing), 39), loads(standing))

    def test_edges(self):
        for row in ((1,), (2,), (GREAT,), (GREAT - 1, GREAT), (GREAT,) * 39, (1,) * 39, (1, 1, GREAT), (1, 2, 2, 3)):
            for most in sorted({len(row), 39}):
                self.assertEqual(loads_back(self.ask(standing_with(row)), most), row)
        self.assertEqual(loads_back(self.ask(DONE), 2), ())
        self.assertEqual(loads_back(self.ask(Standing(House(2, 1), 0, ())), 1), ())

    def test_great(self):
        source = random.Random(15)
        start = time.perf_counter()
        for many in (5, 38, 39):
            for top in (10, 10 ** 9, GREAT):
                row = tuple(sorted(source.randint(1, top) for _ in range(many)))
                self.assertEqual(loads_back(self.ask(standing_with(row)), 39), row)
        for _ in range(3):
            standing = at_lift(great_standing(source, GREAT // 400, 3), 0)
            self.assertLessEqual(people(standing), GREAT)
            self.assertEqual(loads_back(self.ask(standing), 39), loads(standing))
        self.assertLess(time.perf_counter() - start, 20)

    def test_bad_numbers_ahead_of_bad_answers(self):
        for thing in [*STRANGERS, 0, -1, 40, True, False]:
            for ask in (lambda room: None, a_function, self.ask(STANDING)):
                with self.assertRaises(BadNumber):
                    loads_back(ask, thing)
        self.assertEqual(self.asked, 0)

    def test_bad_answers(self):
        for thing in [*STRANGERS, -1, True, False]:
            if thing != 10 ** 39 or isinstance(thing, bool):
                for most in (1, 39):
                    with self.assertRaises(BadAnswer):
                        loads_back(lambda room, thing=thing: thing, most)
        # The answer for a small room is asked for later.
        hidden = standing_with((1, 3))
        with self.assertRaises(BadAnswer):
            loads_back(lambda room: rest_for(hidden, room) if room > 2 else str(room), 2)

    def test_it_ends_with_any_numbers(self):
        for ask in (lambda room: 10 ** 39, lambda room: room, lambda room: 7, lambda room: GREAT - room):
            self.assertIsInstance(loads_back(ask, 39), tuple)

    def test_errors_of_ask_go_on(self):
        with self.assertRaises(ZeroDivisionError):
            loads_back(lambda room: room // 0, 3)


class With(unittest.TestCase):
    def check(self, row):
        standing = standing_with(row)
        top = len(row)
        self.assertEqual(standing.house, House(top + 1, 1))
        self.assertEqual(standing.lift, 0)
        self.assertEqual(loads(standing), row)
        rises = [(floor, top, row[floor] - (row[floor - 1] if floor else 0)) for floor in range(top)]
        self.assertEqual(standing.groups, tuple(group for group in rises if group[2]))
        self.assertEqual(people(standing), row[-1])

    def test_small(self):
        for many in range(1, 5):
            for row in combinations_with_replacement(range(1, 5), many):
                self.check(row)

    def test_edges(self):
        source = random.Random(16)
        for row in ((1,), (7,), (GREAT,), (GREAT,) * 39, (1,) * 39, tuple(range(1, 40)), (5, 5), (1, GREAT),
                    tuple(sorted(source.randint(1, GREAT) for _ in range(39)))):
            self.check(row)
        self.assertEqual(standing_with((3, 4)).groups, ((0, 2, 3), (1, 2, 1)))

    def test_no_fewer_people(self):
        fewest = {}
        for standing in ground_standings(4, 4):
            if len(loads(standing)) == 3:
                fewest[loads(standing)] = min(people(standing), fewest.get(loads(standing), 9))
        for row, many in fewest.items():
            self.assertEqual(people(standing_with(row)), many)
        self.assertGreater(len(fewest), 10)

    def test_bad_loads(self):
        for thing in [*STRANGERS, (), [1], [], (0,), (-1,), (1, 0), (2, 1), (1, 3, 2), (GREAT + 1,), (1, GREAT + 1),
                      (True,), (1, True), (1, "2"), (1, None), ((1,),), (1,) * 40, 5]:
            with self.assertRaises(BadLoads):
                standing_with(thing)


class Thinned(unittest.TestCase):
    def check(self, standing):
        thin, floors = thinned(standing)
        kept = sorted({0, standing.lift} | {floor for group in standing.groups for floor in group[:2]})
        if kept == [0]:
            kept = [0, 1]
        self.assertEqual(floors, tuple(kept))
        self.assertEqual(thin.house, House(len(kept), standing.house.room))
        self.assertEqual(floors[thin.lift], standing.lift)
        self.assertEqual(tuple((floors[stand], floors[want], many) for stand, want, many in thin.groups),
                         standing.groups)
        for place, (low, high) in enumerate(zip(floors, floors[1:])):
            for gap in range(low, high):
                self.assertEqual(number(standing, gap), number(thin, place))
        # What lies above the highest floor that is kept is never gone through.
        self.assertEqual(sum(numbers(standing)[floors[-1]:]), 0)
        return thin, floors

    def stretched(self, thin, floors, room):
        return sum(rest_gap * (high - low) for rest_gap, low, high in zip(
            numbers(in_room(thin, room)), floors, floors[1:]))

    def test_small(self):
        for floors, most in ((2, 3), (4, 2), (6, 1)):
            for standing in small_standings(floors, 2, most):
                thin, kept = self.check(standing)
                for room in range(1, 5):
                    self.assertEqual(rest_for(standing, room), self.stretched(thin, kept, room))
                if kept == tuple(range(floors)):
                    self.assertEqual(thin, standing)

    def test_by_hand(self):
        standing = Standing(House(9, 3), 5, ((2, 7, 1), (3, 3, 2)))
        self.assertEqual(thinned(standing), (Standing(House(5, 3), 3, ((1, 4, 1), (2, 2, 2))), (0, 2, 3, 5, 7)))
        self.assertEqual(thinned(Standing(House(40, 3), 0, ())), (Standing(House(2, 3), 0, ()), (0, 1)))
        self.assertEqual(thinned(Standing(House(40, 3), 0, ((0, 0, 5),))),
                         (Standing(House(2, 3), 0, ((0, 0, 5),)), (0, 1)))
        self.assertEqual(thinned(Standing(House(40, 3), 39, ())), (Standing(House(2, 3), 1, ()), (0, 39)))
        self.assertEqual(thinned(Standing(House(40, 3), 0, ((30, 30, 1),))),
                         (Standing(House(2, 3), 0, ((1, 1, 1),)), (0, 30)))

    def test_nothing_to_leave_out(self):
        # Floors next to one another are all kept, so that rest is the same for all rooms.
        for standing in small_standings(4, 2, 3):
            thin, kept = thinned(standing)
            if kept == tuple(range(len(kept))):
                for room in range(1, 6):
                    self.assertEqual(rest_for(standing, room), rest_for(thin, room))

    def test_great(self):
        rows = [(stand, want, 10 ** 31) for stand in range(0, 40, 3) for want in range(1, 40, 3)]
        rows += [(stand, stand, 10 ** 40) for stand in range(0, 40, 3)]
        self.check(standing_of(House(40, 8), 20, rows))
        rows = [(stand, want, 1) for stand in range(40) for want in range(40)]
        full = standing_of(House(40, 8), 20, rows)
        self.assertEqual(thinned(full), (full, tuple(range(40))))


if __name__ == "__main__":
    unittest.main()
