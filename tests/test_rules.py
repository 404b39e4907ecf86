import random
import time
import unittest

from tests.small import STANDING, STRANGERS, a_function, great_standing, slow_moves, small_standings
from willinglift.errors import BadChoice, BadNumber, TooMany
from willinglift.gaps import rest
from willinglift.houses import House, Standing, is_done, standing_of
from willinglift.moves import is_plan
from willinglift.plans import led
from willinglift.rules import carried, contest, swept
from willinglift.silly import silly_in
from willinglift.wise import willing_move

UP, DOWN = (1, ()), (-1, ())
DONE = Standing(House(3, 2), 0, ((0, 0, 4), (2, 2, 1)))


class Followed:
    """A standing that is told as a dict from (stand, want) to numbers, and the moves that were made."""

    def __init__(self, standing):
        self.room = standing.house.room
        self.lift = standing.lift
        self.crowd = {(stand, want): many for stand, want, many in standing.groups}
        self.moves = []

    def go(self, way, aboard):
        for want, many in aboard.items():
            self.crowd[self.lift, want] -= many
            self.crowd[self.lift + way, want] = self.crowd.get((self.lift + way, want), 0) + many
        self.moves.append((way, tuple(sorted(aboard.items()))))
        self.lift += way

    def away(self):
        return sorted(pair for pair, many in self.crowd.items() if many and pair[0] != pair[1])

    def sweep(self):
        while self.away() or self.lift:
            while any(stand > self.lift or want > self.lift for stand, want in self.away()):
                self.sweep_on(1)
            while self.lift > 0 and (self.away() or self.lift):
                self.sweep_on(-1)
        return tuple(self.moves)

    def sweep_on(self, way):
        wants = sorted((want for stand, want in self.away() if stand == self.lift and way * (want - stand) > 0),
                       key=lambda want: -abs(want - self.lift))
        aboard = {}
        for want in wants:
            taken = min(self.crowd[self.lift, want], self.room - sum(aboard.values()))
            if taken:
                aboard[want] = taken
        self.go(way, aboard)

    def carry(self):
        while self.away():
            stand, want = self.away()[0]
            while self.lift != stand:
                self.go(1 if stand > self.lift else -1, {})
            many = min(self.room, self.crowd[stand, want])
            while self.lift != want:
                self.go(1 if want > stand else -1, {want: many})
        while self.lift:
            self.go(-1, {})
        return tuple(self.moves)


class Rules(unittest.TestCase):
    def check(self, standing):
        for rule, followed in ((swept, Followed(standing).sweep()), (carried, Followed(standing).carry())):
            moves = rule(standing)
            self.assertIsInstance(moves, tuple)
            self.assertEqual(moves, followed)
            self.assertTrue(is_plan(standing, moves))
            self.assertEqual(len(moves), rest(standing) + 2 * len(silly_in(standing, moves)))

    def test_small(self):
        for floors, room, most in ((2, 2, 5), (3, 1, 3), (3, 2, 4), (4, 2, 3)):
            for standing in small_standings(floors, room, most):
                self.check(standing)

    def test_mixed(self):
        source = random.Random(31)
        for _ in range(300):
            house = House(source.randint(2, 8), source.randint(1, 5))
            rows = [(source.randrange(house.floors), source.randrange(house.floors), source.randint(1, 6))
                    for _ in range(source.randint(0, 8))]
            self.check(standing_of(house, source.randrange(house.floors), rows))

    def test_great(self):
        source = random.Random(32)
        start = time.perf_counter()
        for room in (1000, 40, 10 ** 12):
            standing = great_standing(source, 8, room)
            # Only a few groups are carried one after another within the limit.
            few = Standing(standing.house, standing.lift, standing.groups[::8])
            self.assertEqual(swept(standing), Followed(standing).sweep())
            self.check(few)
        near = [(stand, want) for stand in range(40) for want in range(40) if abs(stand - want) <= 5]
        rows = [(*pair, source.randint(1, 9)) for pair in source.sample(near, 400)]
        for room in (9, 10 ** 12):
            self.check(Standing(House(40, room), 25, tuple(sorted(rows))))
        self.assertLess(time.perf_counter() - start, 20)

    def test_by_hand(self):
        standing = Standing(House(3, 2), 1, ((0, 1, 1), (0, 2, 2), (1, 2, 1), (2, 0, 1), (2, 1, 2)))
        self.assertEqual(swept(standing), (
            (1, ((2, 1),)), (-1, ((0, 1), (1, 1))), (-1, ((0, 1),)), (1, ((2, 2),)), (1, ((2, 2),)),
            (-1, ((1, 1),)), DOWN, (1, ((1, 1),)), DOWN))
        self.assertEqual(carried(standing), (
            DOWN, (1, ((1, 1),)), DOWN, (1, ((2, 2),)), (1, ((2, 2),)), DOWN, (1, ((2, 1),)),
            (-1, ((0, 1),)), (-1, ((0, 1),)), UP, UP, (-1, ((1, 2),)), DOWN))

    def test_done(self):
        for rule in (swept, carried):
            self.assertEqual(rule(DONE), ())
            self.assertEqual(rule(Standing(House(2, 1), 0, ())), ())

    def test_home_but_the_lift(self):
        for lift in range(5):
            standing = Standing(House(5, 2), lift, ((0, 0, 1), (lift, lift, 3)) if lift else ((0, 0, 4),))
            for rule in (swept, carried):
                self.assertEqual(rule(standing), (DOWN,) * lift)

    def test_limit(self):
        let = Standing(House(2, 1), 0, ((0, 1, 2500),))
        for rule in (swept, carried):
            self.assertEqual(rule(let), ((1, ((1, 1),)), DOWN) * 2500)
            self.assertEqual(len(rule(Standing(House(2, 1), 1, ((0, 1, 2499),)))), 4999)
        # The last move of one of them is that down to the ground.
        start = time.perf_counter()
        for standing in (Standing(House(2, 1), 1, ((0, 1, 2500),)), Standing(House(2, 1), 0, ((0, 1, 2501),)),
                         Standing(House(40, 1), 39, ((0, 39, 10 ** 30), (39, 0, 10 ** 30))),
                         Standing(House(40, 10 ** 12), 0, tuple((floor, 39 - floor, 10 ** 30) for floor in range(40)))):
            for rule in (swept, carried):
                with self.assertRaises(TooMany) as caught:
                    rule(standing)
                self.assertEqual(caught.exception.limit, 5000)
        self.assertLess(time.perf_counter() - start, 5)

    def test_only_one_is_too_long(self):
        standing = Standing(House(40, 10), 0, tuple((0, want, 12) for want in range(1, 40)) + tuple(
            (39, want, 12) for want in range(30)))
        self.assertLessEqual(len(swept(standing)), 5000)
        self.assertEqual(swept(standing), Followed(standing).sweep())
        self.assertGreater(len(Followed(standing).carry()), 5000)
        with self.assertRaises(TooMany):
            carried(standing)


def to_and_fro(standing):
    """A chooser that never ends but where there are only two floors."""
    return UP if standing.lift == 0 else DOWN


class Contests(unittest.TestCase):
    def test_rows(self):
        choosers = [willing_move, to_and_fro, lambda standing: slow_moves(standing)[-1]]
        for row in (choosers, tuple(choosers), choosers[::-1], [], ()):
            for most in (0, 1, 7, 8, 9, 200, 5000):
                if most < 1000 or to_and_fro not in row:
                    found = contest(STANDING, row, most)
                    self.assertIsInstance(found, list)
                    self.assertEqual(found, [self.slow(STANDING, chooser, most) for chooser in row])

    def slow(self, standing, chooser, most):
        moves = led(standing, chooser, most)
        return len(moves) if is_plan(standing, moves) else None, len(silly_in(standing, moves))

    def test_by_hand(self):
        self.assertEqual(rest(STANDING), 8)
        self.assertEqual(contest(STANDING, (willing_move,), 8), [(8, 0)])
        self.assertEqual(contest(STANDING, (willing_move,), 7), [(None, 0)])
        self.assertEqual(contest(STANDING, (to_and_fro, willing_move, to_and_fro), 40),
                         [(None, 20), (8, 0), (None, 20)])
        self.assertEqual(contest(Standing(House(2, 1), 1, ((0, 0, 1),)), (to_and_fro,), 1), [(1, 0)])
        self.assertEqual(contest(DONE, (a_function, to_and_fro), 0), [(0, 0), (0, 0)])
        self.assertEqual(contest(DONE, (a_function, to_and_fro), 5000), [(0, 0), (0, 0)])
        self.assertTrue(is_done(DONE))

    def test_silly_and_in_time(self):
        # The lift takes one at a time, though there is room for both.
        start = Standing(House(2, 2), 0, ((0, 1, 2),))
        choosers = [lambda standing: (1, ((1, 1),)) if standing.lift == 0 else DOWN]
        self.assertEqual(contest(start, choosers, 4), [(rest(start) + 2, 1)])
        self.assertEqual(contest(start, choosers, 3), [(None, 1)])

    def test_new_each_time(self):
        choosers = [willing_move]
        one = contest(STANDING, choosers, 8)
        one.append(None)
        self.assertEqual(contest(STANDING, choosers, 8), [(8, 0)])
        self.assertEqual(choosers, [willing_move])

    def test_bad_numbers(self):
        for thing in [*STRANGERS, -1, 5001, 10 ** 30, True, False]:
            for choosers in ([], (), [a_function], [willing_move]):
                for standing in (STANDING, DONE):
                    with self.assertRaises(BadNumber):
                        contest(standing, choosers, thing)

    def test_bad_choices(self):
        def nobody(standing):
            return None

        def late(standing):
            return UP

        def later(standing):
            return willing_move(standing) if rest(standing) > 4 else None

        for choosers, index in (([late], 2), ([willing_move, late, nobody], 2), ([nobody, late], 0),
                                ((later, late), 4), ((to_and_fro, later), 4)):
            with self.assertRaises(BadChoice) as caught:
                contest(STANDING, choosers, 100)
            self.assertEqual(caught.exception.index, index)
        for thing in STRANGERS:
            with self.assertRaises(BadChoice) as caught:
                contest(STANDING, [willing_move, lambda standing, thing=thing: thing], 3)
            self.assertEqual(caught.exception.index, 0)
        # So many moves are made ahead of the one that is none.
        self.assertEqual(contest(STANDING, [late], 2), [(None, 2)])
        self.assertEqual(contest(STANDING, [later], 4), [(None, 0)])

    def test_errors_of_choosers_go_on(self):
        with self.assertRaises(ZeroDivisionError):
            contest(STANDING, [lambda standing: 1 // 0], 3)


if __name__ == "__main__":
    unittest.main()
