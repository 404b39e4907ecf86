import random
import time
import unittest

from tests.small import STANDING, STRANGERS, at_lift, small_counts, slow_wishes
from willinglift.errors import BadCounts, BadFacts, BadFloor, BadNumber, TooMany
from willinglift.gaps import number, numbers, rest
from willinglift.houses import House, Standing, people, standing_of
from willinglift.wishes import (bounds_with, is_sure, is_wishes, least_wishes, most_wishes, pair_bounds,
                                travel_bounds, wishes_of)

GREAT = 10 ** 30
HOUSE = House(3, 2)
STANDS, WANTS = (2, 0, 1), (0, 1, 2)


def some_counts():
    for floors, room, most in ((2, 1, 5), (3, 2, 3), (4, 1, 2)):
        for stands, wants in small_counts(floors, most):
            yield House(floors, room), stands, wants
    source = random.Random(21)
    for _ in range(25):
        house = House(source.randint(3, 6), source.randint(1, 3))
        people_there = [source.randrange(house.floors) for _ in range(6)]
        wishes = [source.randrange(house.floors) for _ in range(6)]
        yield (house, tuple(people_there.count(floor) for floor in range(house.floors)),
               tuple(wishes.count(floor) for floor in range(house.floors)))


def great_counts(source, floors):
    everybody = [source.randint(0, GREAT // floors) for _ in range(floors)]
    wants = [source.randint(0, GREAT // floors) for _ in range(floors)]
    lack = sum(everybody) - sum(wants)
    (wants if lack > 0 else everybody)[source.randrange(floors)] += abs(lack)
    return tuple(everybody), tuple(wants)


def counts_of(standing):
    stands, wants = [0] * standing.house.floors, [0] * standing.house.floors
    for stand, want, many in standing.groups:
        stands[stand] += many
        wants[want] += many
    return tuple(stands), tuple(wants)


def pair_of(standing, stand, want):
    return sum(many for one, other, many in standing.groups if (one, other) == (stand, want))


BAD_COUNTS = [*STRANGERS, [2, 0, 1], (2, 0), (2, 0, 1, 0), (True, 1, 1), (2, False, 1), (4, -1, 0), (GREAT + 1, 0, 0),
              (2, "0", 1), (2, None, 1), ((2,), (0,), (1,)), (1, 0, 1), (0, 0, 0), "201", {0: 2, 1: 0, 2: 1}]


class BadOnes(unittest.TestCase):
    def calls(self, stands, wants, thing):
        return (lambda: is_wishes(HOUSE, stands, wants, thing), lambda: least_wishes(HOUSE, stands, wants),
                lambda: most_wishes(HOUSE, stands, wants), lambda: travel_bounds(HOUSE, stands, wants),
                lambda: pair_bounds(HOUSE, stands, wants, thing, thing),
                lambda: is_sure(HOUSE, stands, wants, thing), lambda: wishes_of(HOUSE, stands, wants, thing),
                lambda: bounds_with(HOUSE, stands, wants, thing))

    def test_bad_counts_ahead_of_all(self):
        for bad in BAD_COUNTS:
            for stands, wants in ((bad, WANTS), (STANDS, bad)):
                for thing in (None, -1, 0, (), "x"):
                    for call in self.calls(stands, wants, thing):
                        with self.assertRaises(BadCounts):
                            call()

    def test_edges_are_right(self):
        for stands, wants in (((GREAT, 0, 0), (0, 0, GREAT)), ((0, 0, 0), (0, 0, 0)), ((GREAT,) * 3, (GREAT,) * 3)):
            self.assertTrue(is_wishes(HOUSE, stands, wants, least_wishes(HOUSE, stands, wants)))
            self.assertIsInstance(travel_bounds(HOUSE, stands, wants), tuple)


class Judged(unittest.TestCase):
    def test_all_small_ones(self):
        for house, stands, wants in some_counts():
            for standing in slow_wishes(house, stands, wants)[:30]:
                self.assertIs(is_wishes(house, stands, wants, standing), True)

    def test_what_is_none(self):
        right = Standing(HOUSE, 0, ((0, 1, 1), (0, 2, 1), (2, 2, 1)))
        self.assertIs(is_wishes(HOUSE, STANDS, WANTS, right), True)
        for thing in [*STRANGERS, STANDING, at_lift(right, 1), Standing(House(3, 1), 0, right.groups),
                      Standing(House(4, 2), 0, right.groups), Standing(HOUSE, 0, ((0, 1, 1), (0, 2, 1))),
                      Standing(HOUSE, 0, ((0, 1, 1), (0, 2, 2))), Standing(HOUSE, 0, ((0, 1, 2), (2, 2, 1))),
                      Standing(HOUSE, 0, ((0, 0, 1), (0, 2, 1), (2, 2, 1))), right.groups, HOUSE,
                      (0, right.groups), [right], Standing(HOUSE, 0, ())]:
            self.assertIs(is_wishes(HOUSE, STANDS, WANTS, thing), False)

    def test_returned_ones(self):
        many = standing_of(House(40, 1), 0, [(stand, want, 1) for stand in range(40) for want in range(40)])
        self.assertIs(is_wishes(House(40, 1), (40,) * 40, (40,) * 40, many), True)
        self.assertIs(is_wishes(House(40, 1), (40,) * 39 + (41,), (40,) * 39 + (41,), many), False)


class Bounds(unittest.TestCase):
    def ordered(self, standing, sign):
        pairs = [group[:2] for group in standing.groups]
        return all(sign * one[1] <= sign * other[1] for one in pairs for other in pairs if one[0] < other[0])

    def test_seventh_fact(self):
        for house, stands, wants in some_counts():
            least, most = least_wishes(house, stands, wants), most_wishes(house, stands, wants)
            everyone = slow_wishes(house, stands, wants)
            self.assertIn(least, everyone)
            self.assertIn(most, everyone)
            self.assertTrue(self.ordered(least, 1) and self.ordered(most, -1))
            rows = [numbers(wishes) for wishes in everyone]
            self.assertEqual(numbers(least), tuple(map(min, zip(*rows))))
            self.assertEqual(numbers(most), tuple(map(max, zip(*rows))))
            rests = [sum(row) for row in rows]
            self.assertEqual(travel_bounds(house, stands, wants), (min(rests), max(rests)))

    def test_great(self):
        source = random.Random(22)
        start = time.perf_counter()
        for floors in (2, 3, 40):
            for _ in range(20):
                house = House(floors, source.choice((1, 10 ** 12)))
                stands, wants = great_counts(source, floors)
                least, most = least_wishes(house, stands, wants), most_wishes(house, stands, wants)
                for standing, sign in ((least, 1), (most, -1)):
                    self.assertEqual(standing.house, house)
                    self.assertEqual(standing.lift, 0)
                    self.assertEqual(counts_of(standing), (stands, wants))
                    self.assertTrue(self.ordered(standing, sign))
                    self.assertEqual(standing.groups, tuple(sorted(standing.groups)))
                self.assertEqual(travel_bounds(house, stands, wants), (rest(least), rest(most)))
                for gap in range(floors - 1):
                    self.assertLessEqual(number(least, gap), number(most, gap))
        self.assertLess(time.perf_counter() - start, 5)

    def test_by_hand(self):
        self.assertEqual(least_wishes(House(2, 1), (GREAT, 0), (0, GREAT)).groups, ((0, 1, GREAT),))
        self.assertEqual(most_wishes(House(2, 1), (2, 3), (3, 2)).groups, ((0, 1, 2), (1, 0, 3)))
        self.assertEqual(least_wishes(House(2, 1), (2, 3), (3, 2)).groups, ((0, 0, 2), (1, 0, 1), (1, 1, 2)))
        self.assertEqual(travel_bounds(House(2, 1), (2, 3), (3, 2)), (2, 6))

    def test_nobody(self):
        for floors in (2, 40):
            house, nobody = House(floors, 3), (0,) * floors
            empty = Standing(house, 0, ())
            self.assertEqual(least_wishes(house, nobody, nobody), empty)
            self.assertEqual(most_wishes(house, nobody, nobody), empty)
            self.assertEqual(travel_bounds(house, nobody, nobody), (0, 0))
            self.assertEqual(wishes_of(house, nobody, nobody, 0), empty)
            self.assertIsNone(wishes_of(house, nobody, nobody, 1))
            self.assertIs(is_sure(house, nobody, nobody, 0), True)
            self.assertEqual(pair_bounds(house, nobody, nobody, 0, 1), (0, 0))
            self.assertEqual(bounds_with(house, nobody, nobody, ()), (0, 0))


class Pairs(unittest.TestCase):
    def test_against_all(self):
        for house, stands, wants in some_counts():
            everyone = slow_wishes(house, stands, wants)
            for stand in range(house.floors):
                for want in range(house.floors):
                    found = [pair_of(wishes, stand, want) for wishes in everyone]
                    self.assertEqual(pair_bounds(house, stands, wants, stand, want), (min(found), max(found)))

    def test_great(self):
        house = House(2, 1)
        self.assertEqual(pair_bounds(house, (GREAT, 5), (7, GREAT - 2), 0, 1), (GREAT - 7, GREAT - 2))
        self.assertEqual(pair_bounds(house, (GREAT, 5), (7, GREAT - 2), 1, 1), (0, 5))

    def test_bad_floors(self):
        for thing in [*STRANGERS, -1, 3, True, False]:
            for stand, want in ((thing, 0), (0, thing), (thing, thing)):
                with self.assertRaises(BadFloor):
                    pair_bounds(HOUSE, STANDS, WANTS, stand, want)


class Sure(unittest.TestCase):
    def test_at_the_bounds_and_beside(self):
        for house, stands, wants in some_counts():
            rests = sorted({rest(wishes) for wishes in slow_wishes(house, stands, wants)})
            for many in range(rests[-1] + 3):
                expected = None
                if rests[-1] <= many:
                    expected = True
                elif rests[0] > many:
                    expected = False
                self.assertIs(is_sure(house, stands, wants, many), expected)

    def test_great(self):
        stands, wants = (GREAT, GREAT), (GREAT, GREAT)
        self.assertIs(is_sure(House(2, 1), stands, wants, 2 * GREAT), True)
        self.assertIs(is_sure(House(2, 1), stands, wants, 2 * GREAT - 1), None)
        self.assertIs(is_sure(House(2, 1), stands, wants, 0), None)
        self.assertIs(is_sure(House(2, 1), (GREAT, 0), (0, GREAT), 2 * GREAT - 1), False)
        self.assertIs(is_sure(House(2, 1), (GREAT, 0), (0, GREAT), 2 * GREAT), True)

    def test_bad_numbers(self):
        for thing in [*STRANGERS, -1, True, False]:
            if thing != 10 ** 39 or isinstance(thing, bool):
                for judge in (is_sure, wishes_of):
                    with self.assertRaises(BadNumber):
                        judge(HOUSE, STANDS, WANTS, thing)


class WishesOf(unittest.TestCase):
    def test_against_all(self):
        for house, stands, wants in some_counts():
            everyone = slow_wishes(house, stands, wants)
            most = max(rest(wishes) for wishes in everyone)
            for many in range(most + 3):
                found = [wishes for wishes in everyone if rest(wishes) == many]
                self.assertEqual(wishes_of(house, stands, wants, many), found[0] if found else None)
            self.assertIsNone(wishes_of(house, stands, wants, 10 ** 39))

    def test_limit(self):
        start = time.perf_counter()
        house = House(2, 1)
        let = ((19999, 19999), (19999, 19999))
        self.assertEqual(wishes_of(house, *let, 6).groups, ((0, 0, 19996), (0, 1, 3), (1, 0, 3), (1, 1, 19996)))
        self.assertEqual(wishes_of(house, *let, 0).groups, ((0, 0, 19999), (1, 1, 19999)))
        self.assertEqual(wishes_of(house, *let, 2 * 19999).groups, ((0, 1, 19999), (1, 0, 19999)))
        self.assertIsNone(wishes_of(house, *let, 7))
        great = ((19999, GREAT - 19999), (GREAT - 19999, 19999))
        self.assertEqual(wishes_of(house, *great, 2 * (GREAT - 39997)).groups,
                         ((0, 0, 19998), (0, 1, 1), (1, 0, GREAT - 39997), (1, 1, 19998)))
        for stands, wants in (((20000, GREAT - 20000), (GREAT - 20000, 20000)), ((GREAT,) * 2, (GREAT,) * 2),
                              ((20000,) * 2, (20000,) * 2)):
            self.too_many(house, stands, wants)
        tall = House(40, 3)
        self.too_many(tall, (1,) * 40, (1,) * 40)
        self.too_many(tall, (GREAT,) * 40, (GREAT,) * 40)
        self.too_many(tall, (4, 36) + (0,) * 38, (1,) * 40)
        self.too_many(tall, (1,) * 40, (4, 36) + (0,) * 38)
        # There are 9880 ways to choose three of those who want a floor each.
        stands, wants = (3, 37) + (0,) * 38, (1,) * 40
        for many in travel_bounds(tall, stands, wants):
            found = wishes_of(tall, stands, wants, many)
            self.assertEqual(rest(found), many)
            self.assertTrue(is_wishes(tall, stands, wants, found))
        self.assertLess(time.perf_counter() - start, 20)

    def too_many(self, house, stands, wants):
        for many in (0, 1, 10 ** 39):
            with self.assertRaises(TooMany) as caught:
                wishes_of(house, stands, wants, many)
            self.assertEqual(caught.exception.limit, 20000)
        with self.assertRaises(BadNumber):
            wishes_of(house, stands, wants, -1)

    def test_one_kind_of_wishes_however_many(self):
        self.assertEqual(wishes_of(House(2, 10 ** 12), (GREAT, 0), (0, GREAT), 2 * 10 ** 18).groups, ((0, 1, GREAT),))
        down = wishes_of(House(40, 1), (10 ** 28,) * 40, (40 * 10 ** 28,) + (0,) * 39, 2 * 780 * 10 ** 28)
        self.assertEqual(down.groups, tuple((stand, 0, 10 ** 28) for stand in range(40)))


class Facts(unittest.TestCase):
    def slow(self, house, stands, wants, facts):
        told = {}
        for stand, want, many in facts:
            told[stand, want] = told.get((stand, want), 0) + many
        rests = [rest(wishes) for wishes in slow_wishes(house, stands, wants)
                 if all(pair_of(wishes, *pair) >= many for pair, many in told.items())]
        return (min(rests), max(rests)) if rests else None

    def test_against_all(self):
        source = random.Random(23)
        refused = 0
        for house, stands, wants in some_counts():
            for many in (0, 1, 1, 2, 3):
                facts = [(source.randrange(house.floors), source.randrange(house.floors), source.randint(1, 2))
                         for _ in range(many)]
                expected = self.slow(house, stands, wants, facts)
                for row in (facts, tuple(facts), facts[::-1]):
                    if expected is None:
                        refused += 1
                        self.refused(-1, house, stands, wants, row)
                    else:
                        self.assertEqual(bounds_with(house, stands, wants, row), expected)
        self.assertGreater(refused, 100)

    def refused(self, index, house, stands, wants, facts):
        with self.assertRaises(BadFacts) as caught:
            bounds_with(house, stands, wants, facts)
        self.assertEqual(caught.exception.index, index)

    def test_of_all_wishes(self):
        for house, stands, wants in some_counts():
            for standing in slow_wishes(house, stands, wants)[:10]:
                self.assertEqual(bounds_with(house, stands, wants, standing.groups), (rest(standing),) * 2)
            self.assertEqual(bounds_with(house, stands, wants, []), travel_bounds(house, stands, wants))

    def test_one_pair_is_added(self):
        self.assertEqual(bounds_with(House(2, 1), (3, 3), (3, 3), [(0, 1, 1), (0, 1, 1)]), (4, 6))
        self.refused(-1, House(2, 1), (3, 3), (3, 3), [(0, 1, 2), (0, 1, 2)])
        self.refused(-1, House(2, 1), (3, 3), (3, 3), [(0, 1, 3), (0, 0, 1)])
        self.refused(-1, House(2, 1), (3, 3), (1, 5), [(0, 0, 1), (1, 0, 1)])

    def test_great(self):
        source = random.Random(24)
        start = time.perf_counter()
        house = House(40, 1)
        for _ in range(20):
            stands, wants = great_counts(source, 40)
            least = least_wishes(house, stands, wants)
            self.assertEqual(bounds_with(house, stands, wants, least.groups), (rest(least),) * 2)
            some = bounds_with(house, stands, wants, list(least.groups[::2]))
            bounds = travel_bounds(house, stands, wants)
            self.assertEqual(some[0], bounds[0])
            self.assertLess(some[1], bounds[1])
            self.assertGreater(people(least), 0)
        self.assertLess(time.perf_counter() - start, 5)

    def test_bad_facts(self):
        for thing in STRANGERS:
            if not isinstance(thing, (list, tuple)):
                self.refused(-1, HOUSE, STANDS, WANTS, thing)
            self.refused(0, HOUSE, STANDS, WANTS, [thing])
            self.refused(1, HOUSE, STANDS, WANTS, ((0, 1, 1), thing))
            # The first that is no group is told ahead of too many of one pair.
            self.refused(2, HOUSE, STANDS, WANTS, [(0, 1, 9), (0, 1, 9), thing])
        for fact in ((0, 3, 1), (3, 0, 1), (-1, 0, 1), (0, 1, 0), (0, 1, -1), (0, 1, True), (True, 1, 1), (0, False, 1),
                     [0, 1, 1], (0, 1), (0, 1, 1, 1), (0, 1, "1")):
            self.refused(1, HOUSE, STANDS, WANTS, [(0, 1, 1), fact, fact])
        self.refused(-1, HOUSE, STANDS, WANTS, [(0, 1, 10 ** 39)])
        self.refused(-1, HOUSE, STANDS, WANTS, ((1, 1, 1),))


if __name__ == "__main__":
    unittest.main()
