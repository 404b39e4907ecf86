import random
import time
import unittest

from tests.small import STANDING, STRANGERS, all_rests, key_of, slow_behind, slow_plans, slow_rests, small_standings
from willinglift.errors import BadGap, BadNumber
from willinglift.gaps import counts, crossings, enough, number, numbers, rest, spare
from willinglift.houses import House, Standing, is_done, restless, standing_of
from willinglift.plans import plan


def slow_counts(standing, gap):
    rows = standing.groups
    return (sum(many for stand, want, many in rows if stand <= gap < want),
            sum(many for stand, want, many in rows if want <= gap < stand),
            any(stand != want and (stand > gap or want > gap) for stand, want, _ in rows))


def slow_number(standing, gap):
    up, down, left = slow_counts(standing, gap)
    room = standing.house.room
    ups, downs = (up + room - 1) // room, (down + room - 1) // room
    if standing.lift <= gap:
        return 2 * max(ups, downs, int(left))
    return 2 * max(downs, ups + 1) - 1


def great_standing(lift, room):
    source = random.Random(lift)
    rows = [(stand, want, source.randint(1, 10 ** 30)) for stand in range(40) for want in range(40)]
    return standing_of(House(40, room), lift, rows)


def passes(standing, moves, gap):
    """How often moves go up and down through a gap."""
    lift, ups, downs = standing.lift, 0, 0
    for way, _ in moves:
        ups += (way, lift) == (1, gap)
        downs += (way, lift) == (-1, gap + 1)
        lift += way
    return ups, downs


class Numbers(unittest.TestCase):
    def test_lift_at_below_and_above(self):
        groups = ((0, 0, 9), (0, 3, 5), (1, 0, 2), (3, 1, 1), (3, 3, 4))
        house = House(5, 2)
        told = {0: (6, 6, 6, 0), 1: (7, 6, 6, 0), 2: (7, 7, 6, 0), 3: (7, 7, 7, 0), 4: (7, 7, 7, 1)}
        for lift, expected in told.items():
            standing = Standing(house, lift, groups)
            self.assertEqual([counts(standing, gap) for gap in range(4)],
                             [(5, 2, True), (5, 1, True), (5, 1, True), (0, 0, False)])
            self.assertEqual(numbers(standing), expected)
            self.assertEqual([number(standing, gap) for gap in range(4)], list(expected))
            self.assertEqual(rest(standing), sum(expected))

    def test_left(self):
        # Those who only change floors above a gap, or below it, and those who are home.
        standing = Standing(House(4, 1), 0, ((0, 0, 1), (2, 1, 1), (3, 3, 7)))
        self.assertEqual([counts(standing, gap) for gap in range(3)],
                         [(0, 0, True), (0, 1, True), (0, 0, False)])
        self.assertEqual(numbers(standing), (2, 2, 0))
        self.assertEqual(numbers(Standing(House(4, 1), 3, ((3, 3, 7),))), (1, 1, 1))
        self.assertEqual(numbers(Standing(House(4, 1), 0, ((0, 0, 1), (3, 3, 7)))), (0, 0, 0))
        self.assertIs(counts(standing, 2)[2], False)
        self.assertIs(counts(standing, 0)[2], True)

    def test_restless_counts_alone(self):
        for standing in small_standings(3, 2, 3):
            self.assertEqual(numbers(standing), numbers(restless(standing)))

    def test_as_told(self):
        for standing in small_standings(4, 2, 3):
            for gap in range(3):
                self.assertEqual(counts(standing, gap), slow_counts(standing, gap))
                self.assertEqual(number(standing, gap), slow_number(standing, gap))
            self.assertEqual(numbers(standing), tuple(number(standing, gap) for gap in range(3)))

    def test_great(self):
        start = time.perf_counter()
        for lift in (0, 17, 39):
            for room in (1, 10 ** 12, 999999999989):
                standing = great_standing(lift, room)
                expected = tuple(slow_number(standing, gap) for gap in range(39))
                self.assertEqual(numbers(standing), expected)
                self.assertEqual(rest(standing), sum(expected))
                for gap in (0, 16, 17, 38):
                    self.assertEqual(counts(standing, gap), slow_counts(standing, gap))
                    self.assertEqual(number(standing, gap), expected[gap])
        self.assertLess(time.perf_counter() - start, 5)

    def test_first_fact(self):
        for floors, room, many in ((2, 1, 4), (2, 2, 6), (2, 3, 7), (3, 1, 4), (3, 2, 4), (3, 3, 4), (4, 1, 3),
                                   (4, 2, 3), (5, 1, 2)):
            for standing, least in all_rests(floors, room, many):
                self.assertEqual(rest(standing), least)
                self.assertEqual(rest(standing) == 0, is_done(standing))

    def test_bad_gaps(self):
        for thing in [*STRANGERS, -1, 2, 3, True, False]:
            for judge in (counts, number, crossings, spare):
                with self.assertRaises(BadGap):
                    judge(STANDING, thing)
        self.assertEqual(number(STANDING, 1), 4)


class Crossings(unittest.TestCase):
    def test_against_plans(self):
        for room in (1, 2):
            for standing in small_standings(3, room, 2):
                rests = slow_rests(standing.house, [want for _, want, many in standing.groups for _ in range(many)])
                for moves in slow_plans(standing, rests):
                    for gap in range(2):
                        self.assertEqual(crossings(standing, gap), passes(standing, moves, gap))

    def test_seats(self):
        for standing in small_standings(3, 2, 2):
            moves = plan(standing)
            for gap in range(2):
                ups, downs = passes(standing, moves, gap)
                up, down, _ = slow_counts(standing, gap)
                self.assertEqual(spare(standing, gap), (2 * ups - up, 2 * downs - down))

    def test_great(self):
        for lift in (0, 20, 39):
            for room in (1, 10 ** 12):
                standing = great_standing(lift, room)
                for gap in (0, 19, 20, 38):
                    ups, downs = crossings(standing, gap)
                    self.assertEqual(ups + downs, slow_number(standing, gap))
                    self.assertEqual(downs - ups, 1 if lift > gap else 0)
                    up, down, _ = slow_counts(standing, gap)
                    self.assertEqual(spare(standing, gap), (room * ups - up, room * downs - down))
                    self.assertGreaterEqual(min(spare(standing, gap)), 0)


class Enough(unittest.TestCase):
    def test_near_rest(self):
        source = great_standing(3, 7)
        for standing in (STANDING, source, Standing(House(3, 1), 1, ((0, 2, 1),)), Standing(House(2, 1), 0, ())):
            least = rest(standing)
            for more, expected in ((0, True), (1, False), (2, True), (3, False), (1000, True), (-1, False)):
                if least + more >= 0:
                    self.assertIs(enough(standing, least + more), expected)
            self.assertIs(enough(standing, 0), is_done(standing))

    def test_against_search(self):
        for standing in small_standings(3, 1, 1):
            rests = slow_rests(standing.house, [want for _, want, _ in standing.groups])
            places = {key_of(standing): standing}
            for many in range(8):
                self.assertEqual(enough(standing, many), any(rests[place] == 0 for place in places))
                places = self.one_on(places)

    def one_on(self, places):
        found = {}
        for standing in places.values():
            here = [want for stand, want, _ in standing.groups if stand == standing.lift]
            for way in (-1, 1):
                if 0 <= standing.lift + way < standing.house.floors:
                    for aboard in [(), *[((want, 1),) for want in here]]:
                        other = slow_behind(standing, (way, aboard))
                        found[key_of(other)] = other
        return found

    def test_bad_numbers(self):
        for thing in [*STRANGERS, -1]:
            if thing != 10 ** 39:
                with self.assertRaises(BadNumber):
                    enough(STANDING, thing)
        self.assertIs(enough(STANDING, 10 ** 39), True)


if __name__ == "__main__":
    unittest.main()
