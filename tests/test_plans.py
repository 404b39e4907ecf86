import random
import time
import unittest

from tests.small import STANDING, STRANGERS, slow_behind, slow_moves, small_standings
from willinglift.errors import BadChoice, BadMoves, BadNumber, LiftError, TooMany
from willinglift.gaps import rest
from willinglift.houses import House, Standing, is_done, standing_of
from willinglift.moves import behind, is_move, is_plan
from willinglift.plans import led, mended, plan, willing
from willinglift.silly import change, silly_in
from willinglift.wise import willing_move, wise_moves

UP, DOWN = (1, ()), (-1, ())
LIMIT = Standing(House(2, 1), 0, ((0, 1, 2500),))
BEYOND = Standing(House(2, 1), 1, ((0, 1, 2500),))


def first_of_all(standing):
    return slow_moves(standing)[0]


def last_wise(standing):
    return wise_moves(standing)[-1]


class Limited(unittest.TestCase):
    def too_many(self, call):
        with self.assertRaises(TooMany) as caught:
            call()
        self.assertEqual(caught.exception.limit, 5000)


class Plans(Limited):
    def test_small(self):
        for floors, room, most in ((2, 2, 4), (3, 1, 3), (3, 2, 4), (4, 2, 3), (5, 1, 2)):
            for standing in small_standings(floors, room, most):
                moves = plan(standing)
                self.assertIsInstance(moves, tuple)
                self.assertEqual(len(moves), rest(standing))
                self.assertTrue(is_plan(standing, moves))
                self.assertEqual(silly_in(standing, moves), [])

    def test_great(self):
        source = random.Random(2)
        start = time.perf_counter()
        rows = [(stand, want, source.randint(1, 40)) for stand in range(40) for want in range(40)]
        for room in (300, 10 ** 12):
            standing = standing_of(House(40, room), 23, rows)
            moves = plan(standing)
            self.assertEqual(len(moves), rest(standing))
            self.assertTrue(is_plan(standing, moves))
        self.assertLess(time.perf_counter() - start, 10)

    def test_limit(self):
        self.assertEqual((rest(LIMIT), rest(BEYOND)), (5000, 5001))
        moves = plan(LIMIT)
        self.assertEqual(len(moves), 5000)
        self.assertTrue(is_plan(LIMIT, moves))
        self.too_many(lambda: plan(BEYOND))
        start = time.perf_counter()
        self.too_many(lambda: plan(Standing(House(2, 1), 0, ((0, 1, 10 ** 30),))))
        self.assertLess(time.perf_counter() - start, 1)


class Mended(Limited):
    def is_mended(self, standing, moves):
        places = silly_in(standing, moves)
        kept = moves[:places[0]] if places else moves
        whole = mended(standing, moves)
        self.assertIsInstance(whole, tuple)
        self.assertEqual(whole[:len(kept)], kept)
        self.assertEqual(len(whole), rest(standing))
        self.assertTrue(is_plan(standing, whole))
        self.assertEqual(silly_in(standing, whole), [])

    def test_first_silly_at_each_place(self):
        standing = Standing(House(4, 2), 2, ((0, 3, 3), (1, 0, 2), (3, 1, 1), (3, 3, 1)))
        moves = plan(standing)
        self.is_mended(standing, moves)
        for place in range(len(moves) + 1):
            self.is_mended(standing, moves[:place])
            there = behind(standing, moves[:place])
            for move in slow_moves(there):
                if change(there, move) == 1:
                    self.is_mended(standing, moves[:place] + (move,))
                    later = slow_behind(there, move)
                    self.is_mended(standing, moves[:place] + (move, slow_moves(later)[0], slow_moves(
                        slow_behind(later, slow_moves(later)[0]))[0]))

    def test_all_short_ones(self):
        for standing in small_standings(3, 1, 2):
            self.assertEqual(mended(standing, ()), plan(standing))
            for move in slow_moves(standing):
                for later in slow_moves(slow_behind(standing, move)):
                    self.is_mended(standing, (move, later))

    def refused(self, index, standing, moves):
        with self.assertRaises(BadMoves) as caught:
            mended(standing, moves)
        self.assertEqual(caught.exception.index, index)

    def test_bad_moves_ahead_of_too_many(self):
        self.refused(2, STANDING, (UP, DOWN, (1, ((0, 1),))))
        self.refused(2, STANDING, (UP, UP, UP))
        self.refused(2, BEYOND, (DOWN, UP, UP))
        self.refused(1, BEYOND, (DOWN, DOWN))
        for standing in (STANDING, LIMIT, BEYOND):
            self.refused(-1, standing, [])
            for thing in STRANGERS:
                self.refused(0, standing, (thing,))
                if not isinstance(thing, tuple):
                    self.refused(-1, standing, thing)

    def test_mended_limit(self):
        self.assertEqual(len(mended(LIMIT, ())), 5000)
        self.assertEqual(len(mended(LIMIT, (UP, DOWN))), 5000)
        good = ((1, ((1, 1),)), DOWN)
        self.assertEqual(len(mended(LIMIT, good * 2500)), 5000)
        self.assertEqual(mended(LIMIT, good * 2500 + (UP,)), good * 2500)
        self.too_many(lambda: mended(BEYOND, ()))
        self.too_many(lambda: mended(BEYOND, (DOWN,)))
        self.too_many(lambda: mended(BEYOND, (DOWN,) + good * 2500))
        self.too_many(lambda: mended(BEYOND, (DOWN, UP)))


class Led(Limited):
    def test_ordinary(self):
        self.assertEqual(len(led(STANDING, willing_move, 5000)), rest(STANDING))
        self.assertTrue(is_plan(STANDING, led(STANDING, last_wise, 5000)))
        self.assertEqual(led(STANDING, first_of_all, 3), (UP, DOWN, UP))
        self.assertEqual(led(STANDING, last_wise, 2), led(STANDING, last_wise, 3)[:2])
        self.assertEqual(len(led(STANDING, first_of_all, 5000)), 5000)
        self.assertEqual(len(led(LIMIT, willing_move, 5000)), 5000)
        self.assertEqual(len(led(BEYOND, willing_move, 5000)), 5000)

    def test_nothing_asked(self):
        def never(standing):
            raise AssertionError(standing)

        self.assertEqual(led(STANDING, never, 0), ())
        self.assertEqual(led(Standing(House(2, 1), 0, ((1, 1, 1),)), never, 5000), ())

    def test_chooser_is_given_standings_that_are_not_done(self):
        given = []

        def chooser(standing):
            self.assertIsInstance(standing, Standing)
            self.assertFalse(is_done(standing))
            given.append(standing)
            return last_wise(standing)

        moves = led(STANDING, chooser, 100)
        for standing in given:
            self.assertIn(standing, [behind(STANDING, moves[:many]) for many in range(len(moves))])

    def test_bad_numbers(self):
        for thing in [*STRANGERS, -1, 5001, True]:
            with self.assertRaises(BadNumber):
                led(STANDING, lambda standing: None, thing)

    def test_bad_choices(self):
        for thing in [*STRANGERS, DOWN, (1, ((2, 4),)), (1, ((0, 1),)), (True, ()), [1, ()]]:
            for most in (1, 5000):
                with self.assertRaises(BadChoice) as caught:
                    led(STANDING, lambda standing: thing, most)
                self.assertEqual(caught.exception.index, 0)
                with self.assertRaises(BadChoice) as caught:
                    led(STANDING, lambda standing: UP if standing.lift == 0 else thing if thing != DOWN else UP, 5)
                self.assertEqual(caught.exception.index, 2 if thing == DOWN else 1)
            self.assertEqual(led(STANDING, lambda standing: thing, 0), ())

    def test_bad_choice_at_a_later_place(self):
        standing = Standing(House(2, 1), 0, ((0, 1, 9),))
        good = ((1, ((1, 1),)), DOWN)

        def until(many):
            """A chooser that makes so many moves well, and then none."""
            def chooser(now):
                made = sum(here for stand, _, here in now.groups if stand == 1) * 2 - now.lift
                return good[made % 2] if made < many else None
            return chooser

        for many in range(6):
            for most in (many + 1, many + 5, 5000):
                with self.assertRaises(BadChoice) as caught:
                    led(standing, until(many), most)
                self.assertEqual(caught.exception.index, many)
            # What comes behind the last move that is asked for is nobody's choice.
            self.assertEqual(led(standing, until(many), many), (good * 5)[:many])

    def test_own_errors_go_on(self):
        def chooser(standing):
            raise KeyError(standing.lift)

        for call in (lambda: led(STANDING, chooser, 1), lambda: willing(STANDING, chooser)):
            with self.assertRaises(KeyError):
                call()


class WillingChoosers(Limited):
    def is_willing(self, standing, chooser):
        moves = willing(standing, chooser)
        self.assertIsInstance(moves, tuple)
        self.assertEqual(len(moves), rest(standing))
        self.assertTrue(is_plan(standing, moves))
        for many, move in enumerate(moves):
            there = behind(standing, moves[:many])
            thing = chooser(there)
            is_good = is_move(there, thing) and change(there, thing) == -1
            self.assertEqual(move, thing if is_good else willing_move(there))

    def test_choosers(self):
        source = random.Random(8)
        for _ in range(40):
            house = House(source.randint(2, 5), source.randint(1, 3))
            rows = [(source.randrange(house.floors), source.randrange(house.floors), 1) for _ in range(5)]
            standing = standing_of(house, source.randrange(house.floors), rows)
            for chooser in (first_of_all, last_wise, willing_move, lambda now: slow_moves(now)[-1],
                            lambda now: slow_moves(now)[len(slow_moves(now)) // 2]):
                self.is_willing(standing, chooser)

    def test_no_moves(self):
        for thing in STRANGERS:
            self.is_willing(STANDING, lambda standing: thing)

    def test_done(self):
        def never(standing):
            raise AssertionError(standing)

        self.assertEqual(willing(Standing(House(2, 1), 0, ()), never), ())

    def test_willing_limit(self):
        self.assertEqual(len(willing(LIMIT, lambda standing: None)), 5000)
        self.too_many(lambda: willing(BEYOND, lambda standing: None))

    def test_errors_are_ours(self):
        with self.assertRaises(LiftError):
            willing(BEYOND, None)


if __name__ == "__main__":
    unittest.main()
