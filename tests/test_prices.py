import random
import time
import unittest
from heapq import heappop, heappush

from tests.small import STANDING, STRANGERS, key_of, slow_behind, slow_moves, small_standings
from willinglift.counting import many_plans, plan_at
from willinglift.errors import BadLog, BadMoves, BadPrices
from willinglift.gaps import crossings, rest
from willinglift.houses import House, Standing, standing_of
from willinglift.logs import is_log, length_of, written_out
from willinglift.moves import is_plan
from willinglift.plans import plan
from willinglift.prices import bill, least_bill, through
from willinglift.rules import carried, swept
from willinglift.silly import silly_in

UP, DOWN = (1, ()), (-1, ())
PRICES = ((3, 10), (100, 1000))
GREAT = 10 ** 12


def random_moves(standing, source, many):
    moves = []
    for _ in range(many):
        move = source.choice(slow_moves(standing))
        moves.append(move)
        standing = slow_behind(standing, move)
    return tuple(moves)


def slow_through(standing, moves):
    lift = standing.lift
    passed = [[0, 0] for _ in range(standing.house.floors - 1)]
    for way, _ in moves:
        passed[lift if way == 1 else lift - 1][way != 1] += 1
        lift += way
    return tuple(map(tuple, passed))


def slow_bill(standing, prices, moves):
    return sum(many * price for pair, often in zip(prices, slow_through(standing, moves))
               for price, many in zip(pair, often))


def slow_costs(house, wants, prices):
    """The dict from (lift, groups), for all standings with these wishes, to the least costs of plans.

    The search goes from where all is done backward.
    """
    done = standing_of(house, 0, [(want, want, 1) for want in wants])
    costs = {}
    queue = [(0, 0, done)]
    entered = 0
    while queue:
        cost, _, standing = heappop(queue)
        if key_of(standing) not in costs:
            costs[key_of(standing)] = cost
            for way, aboard in slow_moves(standing):
                other = slow_behind(standing, (way, aboard))
                # The move that is gone back here leads the other way through the gap.
                price = prices[min(standing.lift, other.lift)][0 if way == -1 else 1]
                entered += 1
                heappush(queue, (cost + price, entered, other))
    return costs


class Through(unittest.TestCase):
    def test_by_hand(self):
        standing = Standing(House(4, 2), 1, ())
        self.assertEqual(through(standing, ()), ((0, 0), (0, 0), (0, 0)))
        self.assertEqual(through(standing, (UP, DOWN, UP, UP, DOWN, DOWN, DOWN)), ((0, 1), (2, 2), (1, 1)))
        self.assertEqual(through(Standing(House(2, 1), 1, ()), (DOWN,)), ((0, 1),))

    def test_moves_one_by_one(self):
        source = random.Random(7)
        for _ in range(200):
            house = House(source.randint(2, 6), source.randint(1, 3))
            rows = [(source.randrange(house.floors), source.randrange(house.floors), 1) for _ in range(3)]
            standing = standing_of(house, source.randrange(house.floors), rows)
            moves = random_moves(standing, source, source.randint(0, 30))
            self.assertEqual(through(standing, moves), slow_through(standing, moves))
            prices = tuple((source.randint(0, 9), source.choice((0, GREAT))) for _ in range(house.floors - 1))
            self.assertEqual(bill(standing, prices, moves), slow_bill(standing, prices, moves))

    def test_plans_go_as_the_gaps_tell(self):
        for standing in small_standings(4, 2, 2):
            self.assertEqual(through(standing, plan(standing)), tuple(crossings(standing, gap) for gap in range(3)))

    def test_bad_moves(self):
        def refused(index, moves):
            with self.assertRaises(BadMoves) as caught:
                through(STANDING, moves)
            self.assertEqual(caught.exception.index, index)

        refused(0, (DOWN,))
        refused(1, ((1, ((2, 2),)), (1, ((2, 4),))))
        refused(2, (UP, UP, UP, UP))
        refused(0, (("times", 2, (UP, DOWN)),))
        refused(-1, [])
        refused(-1, [UP])
        for thing in STRANGERS:
            refused(0, (thing,))
            refused(1, (UP, thing))
            if not isinstance(thing, tuple):
                refused(-1, thing)


class Bills(unittest.TestCase):
    def test_by_hand(self):
        self.assertEqual(bill(STANDING, PRICES, ()), 0)
        self.assertEqual(bill(STANDING, PRICES, ((1, ((2, 2),)), UP, DOWN)), 1103)
        self.assertEqual(bill(STANDING, PRICES, (("times", 7, (UP, ("times", 5, (UP, DOWN)), DOWN)),)),
                         7 * (13 + 5 * 1100))
        # Rounds that lead away go through other gaps each time.
        self.assertEqual(bill(STANDING, PRICES, (("times", 2, (UP,)), ("times", 2, (DOWN,)))), 1113)
        self.assertEqual(bill(STANDING, PRICES, (("times", 2, (("times", 1, (UP,)),)), DOWN)), 1103)
        ladder = tuple((10 ** gap, 2 * 10 ** gap) for gap in range(11))
        tall = Standing(House(12, 1), 2, ())
        self.assertEqual(bill(tall, ladder, (("times", 3, (UP, UP, ("times", 4, (UP, DOWN)), UP)),)),
                         11111111100 + 12 * (10 ** 4 + 10 ** 7 + 10 ** 10))

    def test_rounds_written_out(self):
        source = random.Random(8)
        found = 0
        while found < 300:
            standing = standing_of(House(source.randint(2, 6), 2), 0, [(0, 1, 2), (1, 0, 1)])
            log = self.random_log(source, 3)
            if is_log(standing, log) and length_of(log) <= 5000:
                found += 1
                prices = tuple((source.randint(0, 9), source.randint(0, GREAT))
                               for _ in range(standing.house.floors - 1))
                self.assertEqual(bill(standing, prices, log), slow_bill(standing, prices, written_out(log)))

    def random_log(self, source, depth):
        log = []
        for _ in range(source.randint(1, 3)):
            if depth and source.random() < 0.6:
                log.append(("times", source.randint(1, 3), self.random_log(source, depth - 1)))
            else:
                log.append(source.choice((UP, DOWN, (1, ((1, 1),)), (-1, ((1, 1),)))))
        return tuple(log)

    def test_enormous_rounds(self):
        most = 10 ** 30
        start = time.perf_counter()
        log = (UP, DOWN)
        cost = 13
        for _ in range(3):
            log = (("times", most, log), UP, DOWN)
            cost = most * cost + 13
        self.assertEqual(bill(STANDING, PRICES, log), cost)
        self.assertEqual(bill(STANDING, ((0, 0), (0, 0)), log), 0)
        wide = (("times", most, (("times", most, (("times", 39, (UP,)), ("times", 39, (DOWN,)))),)),)
        tall = Standing(House(40, 1), 0, ())
        self.assertEqual(bill(tall, ((GREAT, 1),) * 39, wide), most * most * 39 * (GREAT + 1))
        self.assertLess(time.perf_counter() - start, 2)

    def test_bad_logs(self):
        for log in [*STRANGERS, [], [UP], (UP, UP, UP), (DOWN,), (("times", 3, (UP,)),), (("times", 0, (UP,)),),
                    ((1, ((2, 4),)),), (("times", 2, ((1, ((2, 2),)), DOWN)),), (UP, DOWN) * 101]:
            if not is_log(STANDING, log):
                with self.assertRaises(BadLog):
                    bill(STANDING, PRICES, log)
        self.assertEqual(bill(STANDING, PRICES, (UP, DOWN) * 100), 1300)


class LeastBills(unittest.TestCase):
    def test_against_a_search(self):
        for floors, room, wants, prices in (
                (2, 1, (0, 1, 1), ((5, 7),)), (2, 2, (0, 0, 1), ((0, 0),)), (3, 1, (0, 2), ((1, 0), (7, 30))),
                (3, 2, (0, 1, 2), ((2, 3), (5, 7))), (3, 2, (1, 2, 2), ((0, 9), (0, 0))), (4, 1, (1, 3), (
                    (1, 1), (GREAT, 2), (4, 0))), (4, 2, (0, 3), ((3, 1), (4, 1), (5, 9)))):
            house = House(floors, room)
            for (lift, groups), cost in slow_costs(house, wants, prices).items():
                self.assertEqual(least_bill(Standing(house, lift, groups), prices), cost)

    def test_fifth_fact(self):
        source = random.Random(9)
        for standing in small_standings(3, 2, 3):
            prices = tuple((source.randint(0, 99), source.randint(0, GREAT)) for _ in range(2))
            many = many_plans(standing)
            for index in sorted({0, many // 2, many - 1}):
                moves = plan_at(standing, index)
                self.assertEqual(slow_bill(standing, prices, moves), least_bill(standing, prices))
            self.assertEqual(bill(standing, prices, plan(standing)), least_bill(standing, prices))
            for moves in (swept(standing), carried(standing)):
                self.assertTrue(is_plan(standing, moves))
                self.assertGreaterEqual(slow_bill(standing, prices, moves), least_bill(standing, prices))
                if not silly_in(standing, moves):
                    self.assertEqual(slow_bill(standing, prices, moves), least_bill(standing, prices))

    def test_price_one_is_rest(self):
        for standing in small_standings(4, 2, 2):
            self.assertEqual(least_bill(standing, ((1, 1),) * 3), rest(standing))
            self.assertEqual(least_bill(standing, ((0, 0),) * 3), 0)

    def test_great(self):
        standing = Standing(House(2, 1), 1, ((0, 1, 10 ** 30), (1, 0, 3)))
        self.assertEqual(least_bill(standing, ((GREAT, 5),)), 10 ** 30 * GREAT + (10 ** 30 + 1) * 5)


class BadOnes(unittest.TestCase):
    def test_bad_prices_ahead_of_bad_logs(self):
        wrong = [*STRANGERS, (), ((1, 1),), ((1, 1),) * 3, [(1, 1)] * 2, ([1, 1], [1, 1]), ((1, 1), [1, 1]),
                 ((1, 1), (1, True)), ((False, 1), (1, 1)), ((1, 1), (1, -1)), ((-1, 1), (1, 1)),
                 ((1, 1), (1, GREAT + 1)), ((GREAT + 1, 0), (1, 1)), ((1, 1), (1,)), ((1, 1), (1, 1, 1)),
                 ((1, 1), ("1", 1)), ((1, 1), (1, None)), ((1, 1), "ab"), ((1, 1), 1)]
        for prices in wrong:
            with self.assertRaises(BadPrices):
                least_bill(STANDING, prices)
            for log in ((), None, [UP], (DOWN,)):
                with self.assertRaises(BadPrices):
                    bill(STANDING, prices, log)
        edges = ((0, GREAT), (GREAT, 0))
        self.assertEqual(bill(STANDING, edges, (UP, UP, DOWN)), GREAT)
        self.assertEqual(least_bill(STANDING, edges), slow_bill(STANDING, edges, plan(STANDING)))


if __name__ == "__main__":
    unittest.main()
