import random
import time
import unittest

from tests.small import STANDING, STRANGERS, key_of, slow_behind, slow_moves, slow_plans, slow_rests, small_standings
from tests.test_counting import CHAIN, CROWD, GREATER, LONGER
from willinglift.counting import many_plans
from willinglift.errors import BadMoves, TooMany
from willinglift.gaps import rest
from willinglift.houses import House, Standing, standing_of
from willinglift.moves import is_plan, moved
from willinglift.plans import plan
from willinglift.rules import swept
from willinglift.silly import silly_in
from willinglift.stays import fewest_set_down, most_held, set_down
from willinglift.wise import wise_moves

UP, DOWN = (1, ()), (-1, ())
DONE = Standing(House(3, 2), 0, ((0, 0, 4), (2, 2, 1)))


def slow_most_held(standing, moves):
    most = [0] * standing.house.floors
    for move in (None, *moves):
        standing = slow_behind(standing, move) if move else standing
        for floor in range(standing.house.floors):
            there = sum(many for stand, _, many in standing.groups if stand == floor)
            most[floor] = max(most[floor], there)
    return tuple(most)


def slow_set_down(standing, moves):
    total = 0
    lift = standing.lift
    for index, (way, aboard) in enumerate(moves):
        lift += way
        later = dict(moves[index + 1][1]) if index + 1 < len(moves) else {}
        for want, many in aboard:
            if want != lift and later.get(want, 0) < many:
                total += many - later.get(want, 0)
    return total


def random_moves(standing, source, many):
    moves = []
    for _ in range(many):
        move = source.choice(slow_moves(standing))
        moves.append(move)
        standing = slow_behind(standing, move)
    return tuple(moves)


def some_moves(seed, many):
    source = random.Random(seed)
    for _ in range(many):
        house = House(source.randint(2, 5), source.randint(1, 4))
        rows = [(source.randrange(house.floors), source.randrange(house.floors), source.randint(1, 2))
                for _ in range(source.randint(0, 5))]
        standing = standing_of(house, source.randrange(house.floors), rows)
        yield standing, random_moves(standing, source, source.randint(0, 15))


class BadOnes(unittest.TestCase):
    def refused(self, index, moves):
        for judge in (most_held, set_down):
            with self.assertRaises(BadMoves) as caught:
                judge(STANDING, moves)
            self.assertEqual(caught.exception.index, index)

    def test_bad_moves(self):
        self.refused(0, (DOWN,))
        self.refused(1, ((1, ((2, 2),)), (1, ((2, 4),))))
        self.refused(2, (UP, UP, UP, None))
        self.refused(-1, [])
        self.refused(-1, [UP])
        for thing in STRANGERS:
            self.refused(0, (thing,))
            self.refused(1, (UP, thing))
            if not isinstance(thing, tuple):
                self.refused(-1, thing)


class Held(unittest.TestCase):
    def test_by_hand(self):
        standing = Standing(House(3, 2), 0, ((0, 1, 1), (0, 2, 2), (1, 1, 3), (2, 0, 1)))
        self.assertEqual(most_held(standing, ()), (3, 3, 1))
        # Two stop by on the floor between.
        through = ((1, ((2, 2),)), (1, ((2, 2),)))
        self.assertEqual(most_held(standing, through[:1]), (3, 5, 1))
        self.assertEqual(most_held(standing, through), (3, 5, 3))
        self.assertEqual(most_held(standing, through + ((-1, ((0, 1),)), (-1, ((0, 1), (1, 1))))), (3, 5, 3))
        # Those who stay below count while the lift is away.
        self.assertEqual(most_held(standing, (UP, DOWN)), (3, 3, 1))
        self.assertEqual(most_held(Standing(House(2, 1), 1, ((0, 1, 10 ** 30), (1, 0, 1))), ((-1, ((0, 1),)),)),
                         (10 ** 30 + 1, 1))

    def test_against_each_standing(self):
        for standing, moves in some_moves(61, 300):
            self.assertEqual(most_held(standing, moves), slow_most_held(standing, moves))

    def test_nobody(self):
        self.assertEqual(most_held(Standing(House(3, 1), 2, ()), (DOWN, DOWN, UP)), (0, 0, 0))


class SetDown(unittest.TestCase):
    def test_by_hand(self):
        standing = Standing(House(4, 3), 0, ((0, 2, 1), (0, 3, 2)))
        self.assertEqual(set_down(standing, ()), 0)
        # Behind the last move all who are not where they want are set down.
        self.assertEqual(set_down(standing, ((1, ((2, 1), (3, 2))),)), 3)
        self.assertEqual(set_down(standing, ((1, ((2, 1), (3, 2))), (1, ((2, 1), (3, 2))))), 2)
        self.assertEqual(set_down(standing, ((1, ((2, 1), (3, 2))), (1, ((2, 1), (3, 2))), (1, ((3, 2),)))), 0)
        # One is left amid the way, one goes on.
        self.assertEqual(set_down(standing, ((1, ((3, 2),)), (1, ((3, 1),)), (1, ((3, 1),)))), 1)
        # One in the place of another with like wishes is no setting down.
        other = Standing(House(4, 3), 0, ((0, 3, 1), (1, 3, 1)))
        self.assertEqual(set_down(other, ((1, ((3, 1),)), (1, ((3, 1),)), (1, ((3, 1),)))), 0)
        # Who is taken away from home is set down where he is left.
        home = Standing(House(3, 3), 0, ((0, 0, 2),))
        self.assertEqual(set_down(home, ((1, ((0, 2),)), (-1, ((0, 2),)))), 0)
        self.assertEqual(set_down(home, ((1, ((0, 2),)), (1, ((0, 1),)), (-1, ((0, 1),)), (-1, ((0, 2),)))), 1)
        self.assertEqual(set_down(home, ((1, ((0, 1),)), DOWN)), 1)

    def test_against_each_move(self):
        found = 0
        for standing, moves in some_moves(62, 300):
            self.assertEqual(set_down(standing, moves), slow_set_down(standing, moves))
            found += set_down(standing, moves) > 0
        self.assertGreater(found, 100)


def pairs_of(standing):
    """All pairs of what comes up and who was aboard the move to it, with nobody for the first, by wise moves alone."""
    seen = {(key_of(standing), ())}
    known = {key_of(standing)}
    queue = [standing]
    while queue:
        there = queue.pop()
        for move in wise_moves(there):
            other = moved(there, move)
            seen.add((key_of(other), move[1]))
            if key_of(other) not in known:
                known.add(key_of(other))
                queue.append(other)
    return len(known), len(seen)


class Fewest(unittest.TestCase):
    def check(self, standing):
        found = fewest_set_down(standing)
        self.assertIsInstance(found, tuple)
        number, moves = found
        self.assertTrue(is_plan(standing, moves))
        self.assertEqual(silly_in(standing, moves), [])
        self.assertEqual(slow_set_down(standing, moves), number)
        return number

    def some_standings(self):
        for floors, room, most in ((2, 1, 4), (2, 2, 4), (3, 1, 2), (3, 2, 2), (4, 1, 2)):
            yield from small_standings(floors, room, most)
        source = random.Random(63)
        found = 0
        while found < 80:
            house = House(source.randint(3, 5), source.randint(1, 3))
            rows = [(source.randrange(house.floors), source.randrange(house.floors), 1) for _ in range(3)]
            standing = standing_of(house, source.randrange(house.floors), rows)
            if many_plans(standing) < 500:
                found += 1
                yield standing

    def test_against_all_plans(self):
        above = 0
        for standing in self.some_standings():
            wants = [want for _, want, many in standing.groups for _ in range(many)]
            plans = slow_plans(standing, slow_rests(standing.house, wants))
            number = self.check(standing)
            self.assertEqual(number, min(slow_set_down(standing, moves) for moves in plans))
            above += number > 0
        self.assertGreater(above, 0)

    def fewest(self, standing, lately, known):
        """The fewest settings down from a standing on, by wise moves alone, with these aboard the move to it."""
        key = key_of(standing), lately
        if key not in known:
            ways = []
            for move in wise_moves(standing):
                kept = dict(move[1])
                left = sum(max(0, many - kept.get(want, 0)) for want, many in lately if want != standing.lift)
                ways.append(left + self.fewest(moved(standing, move), move[1], known))
            known[key] = min(ways, default=0)
        return known[key]

    def test_against_wise_moves(self):
        for floors, room, lift, groups, number in (
                (4, 2, 3, ((1, 2, 1), (3, 0, 2)), 1), (5, 3, 4, ((1, 2, 2), (4, 0, 2)), 1),
                (4, 3, 3, ((1, 2, 2), (3, 0, 3)), 2), (7, 3, 5, ((2, 3, 2), (5, 1, 2), (5, 4, 1)), 1),
                # Here the fewest ahead of a standing are not those that lead on with the fewest.
                (4, 4, 2, ((1, 3, 1), (2, 0, 2), (3, 1, 3), (3, 2, 1)), 1),
                (7, 4, 4, ((1, 6, 2), (4, 0, 3), (4, 6, 2), (5, 0, 1), (5, 1, 1)), 1),
                # Here moves with the same people aboard, from above and from below, come to one standing.
                (4, 2, 3, ((0, 1, 2), (1, 0, 3), (2, 1, 3), (3, 0, 1)), 0), (5, 1, 0, ((0, 4, 1), (3, 2, 2)), 0),
                (5, 1, 4, ((1, 0, 3), (1, 2, 2), (3, 0, 1)), 0), (4, 2, 3, ((1, 2, 3), (1, 3, 1), (3, 0, 4)), 0)):
            standing = Standing(House(floors, room), lift, groups)
            self.assertEqual(self.check(standing), number)
            self.assertEqual(self.fewest(standing, (), {}), number)

    def test_some_against_wise_moves(self):
        source = random.Random(65)
        for _ in range(150):
            house = House(source.randint(3, 6), source.randint(1, 3))
            rows = [(*source.sample(range(house.floors), 2), source.randint(1, 2)) for _ in range(source.randint(1, 2))]
            standing = standing_of(house, source.choice((house.floors - 1, source.randrange(house.floors))), rows)
            self.assertEqual(self.check(standing), self.fewest(standing, (), {}))

    def test_who_has_to_be_set_down(self):
        # Both seats are wanted for two who go up, while one from above is on the way down and waits.
        self.assertEqual(self.check(Standing(House(4, 2), 3, ((1, 2, 2), (3, 0, 1)))), 1)
        self.assertEqual(self.check(Standing(House(4, 3), 3, ((1, 2, 2), (3, 0, 1)))), 0)
        self.assertLessEqual(self.check(STANDING), set_down(STANDING, plan(STANDING)))

    def test_done(self):
        self.assertEqual(fewest_set_down(DONE), (0, ()))
        self.assertEqual(fewest_set_down(Standing(House(2, 1), 1, ())), (0, (DOWN,)))

    def test_sweeps_without_silly_moves_are_no_better(self):
        source = random.Random(64)
        for _ in range(100):
            house = House(source.randint(2, 5), source.randint(1, 3))
            rows = [(source.randrange(house.floors), source.randrange(house.floors), 1) for _ in range(4)]
            standing = standing_of(house, source.randrange(house.floors), rows)
            number = self.check(standing)
            for moves in (plan(standing), swept(standing)):
                if not silly_in(standing, moves):
                    self.assertLessEqual(number, set_down(standing, moves))

    def too_many(self, standing):
        with self.assertRaises(TooMany) as caught:
            fewest_set_down(standing)
        self.assertEqual(caught.exception.limit, 20000)

    def test_pairs(self):
        let = Standing(House(3, 2), 0, ((0, 1, 19), (0, 2, 19)))
        self.assertEqual(pairs_of(let), (8916, 19996))
        self.check(let)
        for beyond, told in ((Standing(House(3, 8), 0, ((0, 1, 10), (0, 2, 10))), (3317, 20081)),
                             (Standing(House(3, 7), 0, ((0, 1, 11), (0, 2, 11))), (2637, 20239))):
            self.assertEqual(pairs_of(beyond), told)
            self.assertGreater(many_plans(beyond), 0)
            self.too_many(beyond)

    def test_standings(self):
        self.assertEqual(rest(CHAIN), 19999)
        number, moves = fewest_set_down(CHAIN)
        self.assertEqual((number, moves), (0, (DOWN,) + ((1, ((1, 1),)), DOWN) * 9999))
        self.too_many(LONGER)

    def test_moves(self):
        self.assertEqual(fewest_set_down(CROWD), (0, (DOWN,)))
        self.too_many(GREATER)
        self.too_many(Standing(House(3, 10 ** 12), 0, ((0, 1, 1), (1, 1, 20000))))
        last = Standing(House(2, 10 ** 12), 0, ((0, 0, 10 ** 30),))
        self.assertEqual(fewest_set_down(last), (0, ()))

    def test_great_ones_soon(self):
        start = time.perf_counter()
        for standing in (Standing(House(6, 8), 4, ((0, 0, 18), (0, 1, 2), (0, 5, 1), (2, 4, 1), (2, 5, 1))),
                         Standing(House(5, 5), 0, ((0, 4, 8), (1, 1, 22), (3, 2, 2), (4, 1, 7)))):
            self.check(standing)
        self.too_many(Standing(House(5, 4), 4, ((0, 3, 7), (1, 1, 8), (2, 0, 9), (2, 2, 27), (3, 4, 7))))
        self.too_many(Standing(House(40, 1), 0, tuple((0, want, 10 ** 30) for want in range(40))))
        self.assertLess(time.perf_counter() - start, 15)

    def test_equal_standings(self):
        self.assertEqual(fewest_set_down(STANDING), fewest_set_down(Standing(House(3, 2), 0, STANDING.groups)))


if __name__ == "__main__":
    unittest.main()
