import random
import time
import unittest

from tests.small import (HOUSE, STANDING, STRANGERS, a_function, great_standing, slow_behind, small_standings)
from willinglift.errors import BadChoice, BadFloor, BadGroup, BadNews, TooMany
from willinglift.gaps import numbers, rest
from willinglift.houses import House, Standing, is_done, people, standing_of
from willinglift.news import free_seats, joined, raised, with_news
from willinglift.plans import led
from willinglift.rides import Ride
from willinglift.wise import needs, willing_move

UP, DOWN = (1, ()), (-1, ())
GREAT = 10 ** 30
BAD_GROUPS = [*STRANGERS, (0, 3, 1), (3, 0, 1), (-1, 0, 1), (0, -1, 1), (0, 1, 0), (0, 1, -1), (0, 1, True),
              (True, 1, 1), (0, False, 1), [0, 1, 1], (0, 1), (0, 1, 1, 1), (0, 1, "1"), ("0", 1, 1), (0, None, 1)]


def slow_joined(standing, group):
    return standing_of(standing.house, standing.lift, [*standing.groups, group])


def all_groups(floors, sizes):
    return [(stand, want, many) for stand in range(floors) for want in range(floors) for many in sizes]


class Joined(unittest.TestCase):
    def test_small(self):
        for standing in small_standings(3, 2, 3):
            for group in all_groups(3, (1, 3)):
                self.assertEqual(joined(standing, group), slow_joined(standing, group))

    def test_a_ride_goes_on_with_its_sums(self):
        for standing in small_standings(3, 2, 2):
            for group in all_groups(3, (1, 3)):
                ride = Ride(standing)
                ride.take_in(group)
                later = slow_joined(standing, group)
                self.assertEqual(ride.standing(), later)
                self.assertEqual(ride.rest(), rest(later))
                self.assertEqual(ride.is_done(), is_done(later))
                self.assertEqual([ride.needs(way) for way in (1, -1)], [needs(later, way) for way in (1, -1)])

    def test_pairs(self):
        self.assertEqual(joined(STANDING, (0, 1, 5)).groups, ((0, 1, 5), (0, 2, 3), (1, 2, 1)))
        self.assertEqual(joined(STANDING, (0, 2, 5)).groups, ((0, 2, 8), (1, 2, 1)))
        self.assertEqual(joined(STANDING, (2, 2, 5)).groups, ((0, 2, 3), (1, 2, 1), (2, 2, 5)))
        self.assertEqual(STANDING.groups, ((0, 2, 3), (1, 2, 1)))

    def test_beyond_the_bounds(self):
        standing = great_standing(random.Random(51), 9, 5)
        free = [pair for pair in ((stand, want) for stand in range(40) for want in range(40))
                if pair not in {group[:2] for group in standing.groups}]
        for pair in free[:30]:
            standing = joined(standing, (*pair, GREAT))
        self.assertEqual(len(standing.groups), 430)
        for _ in range(3):
            standing = joined(standing, (*free[0], GREAT))
        self.assertEqual(len(standing.groups), 430)
        self.assertIn((*free[0], 4 * GREAT), standing.groups)
        self.assertGreater(people(standing), 32 * GREAT)
        self.assertEqual(len(joined(standing, (*free[30], 1)).groups), 431)

    def test_bad_groups(self):
        for thing in [*BAD_GROUPS, (0, 1, GREAT + 1), (1, 1, GREAT + 1)]:
            for judge in (joined, raised):
                with self.assertRaises(BadGroup):
                    judge(STANDING, thing)


class Raised(unittest.TestCase):
    def test_small(self):
        for standing in small_standings(3, 2, 3):
            for group in all_groups(3, (1, 2, 3)):
                rises = raised(standing, group)
                later = numbers(slow_joined(standing, group))
                self.assertEqual(rises, tuple(high - low for high, low in zip(later, numbers(standing))))
                self.assertTrue(all(rise >= 0 and rise % 2 == 0 for rise in rises))

    def test_great(self):
        standing = Standing(House(4, 3), 2, ((1, 3, 2),))
        self.assertEqual(raised(standing, (0, 3, GREAT)), (2 * -(-GREAT // 3), 2 * -(-(GREAT + 2) // 3) - 2,
                                                            2 * -(-(GREAT + 2) // 3) - 2))
        self.assertEqual(raised(standing, (3, 3, GREAT)), (0, 0, 0))


class FreeSeats(unittest.TestCase):
    def check(self, standing):
        floors = standing.house.floors
        for stand in range(floors):
            for want in range(floors):
                seats = free_seats(standing, stand, want)
                if stand == want:
                    self.assertIsNone(seats)
                    for many in (1, 10 ** 30):
                        self.assertEqual(rest(slow_joined(standing, (stand, want, many))), rest(standing))
                    continue
                self.assertIsInstance(seats, int)
                if seats:
                    self.assertEqual(rest(slow_joined(standing, (stand, want, seats))), rest(standing))
                self.assertGreater(rest(slow_joined(standing, (stand, want, seats + 1))), rest(standing))

    def test_small(self):
        for floors, room, most in ((2, 3, 4), (3, 2, 3), (4, 1, 2), (4, 3, 2)):
            for standing in small_standings(floors, room, most):
                self.check(standing)

    def test_mixed_and_great(self):
        source = random.Random(52)
        for _ in range(100):
            house = House(source.randint(2, 8), source.choice((1, 2, 5, 30, 10 ** 12)))
            rows = [(source.randrange(house.floors), source.randrange(house.floors), source.randint(1, 60))
                    for _ in range(source.randint(0, 10))]
            self.check(standing_of(house, source.randrange(house.floors), rows))
        self.check(Standing(House(2, 10 ** 12), 0, ((0, 1, GREAT - 1),)))

    def test_left_counts_too(self):
        # The lift is above the upper gap and comes down anyway; a gap that it need not go through has no seat.
        self.assertEqual(free_seats(Standing(House(3, 4), 0, ((0, 1, 1),)), 1, 2), 0)
        self.assertEqual(free_seats(Standing(House(3, 4), 0, ((0, 1, 1),)), 0, 2), 0)
        self.assertEqual(free_seats(Standing(House(3, 4), 0, ((0, 1, 1),)), 0, 1), 3)
        self.assertEqual(free_seats(Standing(House(3, 4), 2, ()), 2, 1), 4)
        self.assertEqual(free_seats(Standing(House(3, 4), 2, ()), 1, 2), 0)
        self.assertEqual(free_seats(Standing(House(4, 4), 2, ()), 3, 2), 0)

    def test_bad_floors(self):
        for thing in [*STRANGERS, -1, 3, True, False]:
            for stand, want in ((thing, 0), (0, thing), (thing, thing)):
                with self.assertRaises(BadFloor):
                    free_seats(STANDING, stand, want)


def slow_with_news(standing, chooser, news):
    """The moves with news, each thing that happens one behind another."""
    time_gone = 0
    coming = list(news)
    moves = []
    while True:
        while coming and coming[0][0] <= time_gone:
            standing = slow_joined(standing, coming.pop(0)[1])
        if is_done(standing) and not coming:
            return tuple(moves)
        if is_done(standing):
            time_gone = coming[0][0]
            continue
        move = chooser(standing)
        standing = slow_behind(standing, move)
        moves.append(move)
        time_gone += 1


def some_chooser(standing):
    """A chooser that ends, though some of its moves are silly, because it takes fewer aboard than it could."""
    assert not is_done(standing)
    way, aboard = willing_move(standing)
    return way, tuple((want, 1) for want, _ in aboard[:1])


def ending_chooser(standing):
    assert not is_done(standing)
    return willing_move(standing)


class WithNews(unittest.TestCase):
    def check(self, standing, chooser, news):
        moves = with_news(standing, chooser, news)
        self.assertIsInstance(moves, tuple)
        self.assertEqual(moves, slow_with_news(standing, chooser, news))
        return moves

    def test_mixed(self):
        source = random.Random(53)
        for _ in range(300):
            house = House(source.randint(2, 5), source.randint(1, 3))
            rows = [(source.randrange(house.floors), source.randrange(house.floors), source.randint(1, 3))
                    for _ in range(source.randint(0, 4))]
            standing = standing_of(house, source.choice((0, source.randrange(house.floors))), rows)
            whens = sorted(source.choice((0, 1, 2, 5, 9, 30, 200, 5000)) for _ in range(source.randint(0, 6)))
            news = tuple((when, (source.randrange(house.floors), source.randrange(house.floors), source.randint(1, 3)))
                         for when in whens)
            self.check(standing, ending_chooser, news)

    def test_choosers_with_silly_moves(self):
        for news in ((), ((0, (2, 0, 1)),), ((3, (0, 2, 1)), (3, (2, 1, 2)), (40, (1, 0, 1)))):
            moves = self.check(STANDING, some_chooser, news)
            self.assertGreater(len(moves), len(with_news(STANDING, ending_chooser, news)))

    def test_no_news(self):
        for standing in small_standings(3, 2, 2):
            self.assertEqual(with_news(standing, ending_chooser, ()), led(standing, ending_chooser, 5000))

    def test_by_hand(self):
        start = Standing(House(2, 1), 0, ((0, 1, 1),))
        round_trip = ((1, ((1, 1),)), DOWN)
        self.assertEqual(with_news(start, ending_chooser, ()), round_trip)
        # At once, amid the way, just as it ends, and long behind it.
        for when in (0, 1, 2, 3, 77, 5000):
            self.assertEqual(with_news(start, ending_chooser, ((when, (0, 1, 1)),)), round_trip * 2)
        self.assertEqual(with_news(start, ending_chooser, ((1, (1, 0, 1)),)), ((1, ((1, 1),)), (-1, ((0, 1),))))
        self.assertEqual(with_news(start, ending_chooser, ((2, (1, 0, 1)),)), round_trip + (UP, (-1, ((0, 1),))))
        self.assertEqual(with_news(start, ending_chooser, ((9, (1, 1, 1)), (9, (0, 0, 4)))), round_trip)
        like = ((5, (0, 1, 1)), (5, (1, 0, 1)), (5, (0, 1, 1)))
        self.assertEqual(with_news(start, ending_chooser, like), self.check(start, ending_chooser, like))
        self.assertEqual(len(with_news(start, ending_chooser, like)), 6)
        # The skipped time has passed: the second news come while the first are carried.
        skipped = ((100, (0, 1, 1)), (101, (1, 0, 1)))
        self.assertEqual(with_news(start, ending_chooser, skipped), round_trip + ((1, ((1, 1),)), (-1, ((0, 1),))))
        later = ((100, (0, 1, 1)), (102, (1, 0, 1)))
        self.assertEqual(with_news(start, ending_chooser, later), round_trip * 2 + (UP, (-1, ((0, 1),))))

    def test_done_at_first(self):
        done = Standing(House(3, 2), 0, ((1, 1, 3),))
        self.assertEqual(with_news(done, a_function, ()), ())
        self.assertEqual(with_news(done, a_function, ((0, (1, 1, 2)), (70, (2, 2, 10 ** 39)))), ())
        for when in (0, 1, 5000):
            self.assertEqual(with_news(done, ending_chooser, ((when, (0, 1, 1)),)), ((1, ((1, 1),)), DOWN))

    def test_limit(self):
        start = Standing(House(2, 1), 0, ((0, 1, 2499),))
        trips = ((1, ((1, 1),)), DOWN)
        self.assertEqual(with_news(start, ending_chooser, ((5000, (0, 1, 1)),)), trips * 2500)
        self.assertEqual(with_news(start, ending_chooser, ((4998, (0, 1, 1)), (5000, (1, 1, 1)))), trips * 2500)
        self.assertEqual(with_news(Standing(House(2, 1), 0, ((0, 1, 2500),)), ending_chooser, ((5000, (0, 0, 1)),)),
                         trips * 2500)
        clock = time.perf_counter()
        for standing, chooser, news in (
                (start, ending_chooser, ((5000, (0, 1, 2)),)),
                (start, ending_chooser, ((0, (0, 1, 1)), (5000, (0, 1, 1)))),
                (Standing(House(2, 1), 1, ((0, 1, 2500),)), ending_chooser, ()),
                (Standing(House(2, 1), 0, ((0, 1, 2500),)), ending_chooser, ((5000, (0, 1, 1)),)),
                (STANDING, lambda standing: UP if standing.lift == 0 else DOWN, ())):
            with self.assertRaises(TooMany) as caught:
                with_news(standing, chooser, news)
            self.assertEqual(caught.exception.limit, 5000)
        self.assertLess(time.perf_counter() - clock, 5)

    def test_asked_no_more_than_so_often(self):
        asked = []

        def chooser(standing):
            asked.append(standing)
            return UP if standing.lift == 0 else DOWN

        with self.assertRaises(TooMany):
            with_news(STANDING, chooser, ())
        self.assertLessEqual(len(asked), 5000)

    def refused(self, index, news):
        with self.assertRaises(BadNews) as caught:
            with_news(STANDING, a_function, news)
        self.assertEqual(caught.exception.index, index)

    def test_bad_news_ahead_of_all(self):
        good = (3, (0, 1, 1))
        for thing in STRANGERS:
            if not isinstance(thing, tuple):
                self.refused(-1, thing)
            self.refused(0, (thing,))
            self.refused(1, (good, thing))
            if thing not in (10 ** 39, -10 ** 39) or isinstance(thing, bool):
                self.refused(1, (good, (thing, (0, 1, 1)), good))
        for group in BAD_GROUPS:
            self.refused(1, (good, (4, group), (2, None)))
        for pair in ((2, (0, 1, 1)), (-1, (0, 1, 1)), (5001, (0, 1, 1)), (True, (0, 1, 1)), (4, (0, 1, 1), 1), (4,),
                     [4, (0, 1, 1)], ((0, 1, 1), 4)):
            self.refused(1, (good, pair))
        self.refused(-1, [good])
        self.refused(0, ((-1, (0, 1, 1)),))
        self.refused(0, ((False, (0, 1, 1)),))
        self.refused(2, ((0, (0, 1, 1)), (5000, (0, 1, 1)), (4999, (0, 1, 1))))

    def test_bad_choices(self):
        for thing in STRANGERS:
            with self.assertRaises(BadChoice) as caught:
                with_news(STANDING, lambda standing, thing=thing: thing, ((9, (0, 1, 1)),))
            self.assertEqual(caught.exception.index, 0)
        # Two moves are made, and time is skipped; then a move comes that is none.
        start = Standing(House(2, 1), 0, ((0, 1, 1),))
        for floor, index in ((0, 2), (1, 3)):
            def chooser(standing, floor=floor):
                self.assertFalse(is_done(standing))
                return "no" if people(standing) == 2 and standing.lift == floor else willing_move(standing)
            with self.assertRaises(BadChoice) as caught:
                with_news(start, chooser, ((4000, (0, 1, 1)),))
            self.assertEqual(caught.exception.index, index)
        with self.assertRaises(BadChoice) as caught:
            with_news(STANDING, lambda standing: UP, ())
        self.assertEqual(caught.exception.index, 2)

    def test_arguments_stay(self):
        news = ((0, (0, 1, 1)), (2, (1, 0, 1)))
        one = with_news(STANDING, ending_chooser, news)
        self.assertEqual(with_news(STANDING, ending_chooser, news), one)
        self.assertEqual(news, ((0, (0, 1, 1)), (2, (1, 0, 1))))
        self.assertEqual(STANDING, Standing(HOUSE, 0, ((0, 2, 3), (1, 2, 1))))


if __name__ == "__main__":
    unittest.main()
