import random
import time
import unittest
from itertools import combinations_with_replacement
from math import comb

from tests.small import HOUSE, STANDING, STRANGERS, great_standing, slow_behind, slow_moves, small_standings
from willinglift.errors import BadNumber, TooMany
from willinglift.gaps import numbers, rest
from willinglift.houses import House, Standing, is_done, standing_of
from willinglift.plans import plan
from willinglift.rules import carried, swept
from willinglift.silly import silly_in
from willinglift.strangers import few_moves, judged, refuted

UP, DOWN = (1, ()), (-1, ())
DONE = Standing(HOUSE, 0, ((0, 0, 4), (2, 2, 1)))


def slow_judged(standing, things):
    """What is to be said of a tuple, by looks at the standing behind each move."""
    first = rest(standing)
    places = []
    for index, thing in enumerate(things):
        if thing not in slow_moves(standing):
            return "none", index
        later = slow_behind(standing, thing)
        if rest(later) > rest(standing):
            places.append(index)
        standing = later
    if not is_done(standing):
        return "open", rest(standing)
    return ("silly", places) if places else ("least", first)


class Judged(unittest.TestCase):
    def test_four_answers(self):
        moves = plan(STANDING)
        self.assertEqual(judged(STANDING, moves), ("least", 8))
        self.assertEqual(judged(STANDING, (UP, DOWN) + moves), ("silly", [0]))
        self.assertEqual(judged(STANDING, moves + (UP, DOWN)), ("silly", [8]))
        self.assertEqual(judged(STANDING, moves[:3]), ("open", 5))
        self.assertEqual(judged(STANDING, ()), ("open", 8))
        self.assertEqual(judged(STANDING, (DOWN,)), ("none", 0))
        self.assertEqual(judged(STANDING, moves + (DOWN,)), ("none", 8))
        self.assertEqual(judged(DONE, ()), ("least", 0))
        self.assertEqual(judged(DONE, (UP, UP, DOWN, DOWN)), ("silly", [0, 1]))

    def test_strangers(self):
        for thing in STRANGERS:
            for standing in (STANDING, DONE):
                index = 0 if isinstance(thing, tuple) and thing != () else -1
                self.assertEqual(judged(standing, thing), ("none", index), thing)
            for many in range(3):
                self.assertEqual(judged(STANDING, (UP, DOWN)[:many] + (thing,)), ("none", many))
        self.assertEqual(judged(STANDING, [UP]), ("none", -1))
        self.assertEqual(judged(STANDING, ()), ("open", 8))

    def test_drawn_moves(self):
        source = random.Random(81)
        found = set()
        for _ in range(600):
            house = House(source.randint(2, 4), source.randint(1, 3))
            rows = [(source.randrange(house.floors), source.randrange(house.floors), 1) for _ in range(3)]
            standing = standing_of(house, source.randrange(house.floors), rows)
            moves = []
            there = standing
            while len(moves) < source.choice((0, 2, 6)):
                moves.append(source.choice(slow_moves(there)))
                there = slow_behind(there, moves[-1])
            moves = tuple(moves) + source.choice(((), plan(there), plan(there), (UP,) * 4))
            told = judged(standing, moves)
            self.assertIsInstance(told, tuple)
            self.assertEqual(told, slow_judged(standing, moves))
            found.add(told[0])
        self.assertEqual(found, {"none", "open", "silly", "least"})

    def test_all_places_of_a_long_plan(self):
        standing = Standing(House(6, 3), 2, ((0, 5, 40), (3, 1, 30), (5, 0, 60), (5, 4, 1)))
        for moves in (carried(standing), swept(standing), (UP, DOWN) * 50 + plan(standing)):
            kind, places = judged(standing, moves)
            self.assertEqual((kind, places), ("silly", silly_in(standing, moves)))
            self.assertEqual(len(moves), rest(standing) + 2 * len(places))
            places.append(None)
            self.assertEqual(judged(standing, moves), ("silly", places[:-1]))

    def test_great_houses(self):
        start = time.perf_counter()
        standing = great_standing(random.Random(82), 40, 10 ** 3)
        moves = plan(standing)
        self.assertEqual(judged(standing, moves), ("least", rest(standing)))
        self.assertEqual(judged(standing, moves[:-1]), ("open", 1))
        self.assertEqual(judged(standing, moves + (DOWN,)), ("none", len(moves)))
        standing = great_standing(random.Random(83), 10 ** 30, 10 ** 12)
        self.assertEqual(judged(standing, (DOWN, UP)), ("open", rest(standing)))
        self.assertLess(time.perf_counter() - start, 10)


def slow_refuted(claim, house, most):
    """The least triple, from all standings of so many people in any order."""
    pairs = [(stand, want) for stand in range(house.floors) for want in range(house.floors) if stand != want]
    found = []
    for many in range(most + 1):
        for chosen in combinations_with_replacement(pairs, many):
            for lift in range(house.floors):
                standing = standing_of(house, lift, [(*pair, 1) for pair in chosen])
                answer = claim(standing)
                if isinstance(answer, bool) or not isinstance(answer, int) or answer != rest(standing):
                    found.append((many, lift, standing.groups))
    return min(found) if found else None


class Refuted(unittest.TestCase):
    def test_true_claims(self):
        for floors, room, most in ((2, 1, 3), (3, 2, 3), (4, 1, 2)):
            self.assertIsNone(refuted(rest, House(floors, room), most))
            self.assertIsNone(refuted(lambda standing: len(plan(standing)), House(floors, room), most))

    def test_wrong_claims(self):
        def without_room(standing):
            return sum(2 for floor in range(standing.house.floors) if
                       any(max(stand, want) > floor for stand, want, _ in standing.groups)) + standing.lift

        def for_others(standing):
            return rest(standing) if sum(many for _, _, many in standing.groups) < 3 else 0

        claims = [without_room, for_others, lambda standing: 0, lambda standing: rest(standing) + 2 * standing.lift,
                  lambda standing: rest(standing) if standing.groups[:1] != ((2, 1, 1),) else None,
                  lambda standing: rest(standing) - (standing.groups[-1:] == ((2, 0, 2),)),
                  lambda standing: rest(standing) - (standing.lift == 2 and standing.groups[:1] == ((1, 2, 3),))]
        for claim in claims:
            for room in (1, 2):
                for most in (1, 2, 3):
                    house = House(3, room)
                    self.assertEqual(refuted(claim, house, most), slow_refuted(claim, house, most))
        self.assertEqual(refuted(without_room, House(3, 1), 2), (1, 1, ((1, 0, 1),)))
        self.assertEqual(refuted(claims[-1], House(3, 1), 3), (3, 2, ((1, 2, 3),)))
        self.assertIsNone(refuted(claims[-1], House(3, 1), 2))

    def test_each_standing_alone(self):
        house = House(3, 1)
        for standing in small_standings(3, 1, 2):
            if all(stand != want for stand, want, _ in standing.groups):
                told = (sum(many for _, _, many in standing.groups), standing.lift, standing.groups)
                found = refuted(lambda other: rest(other) + (other == standing), house, 2)
                self.assertEqual(found, told)

    def test_no_integers(self):
        for thing in [*STRANGERS, 0.5, 1.0]:
            if thing not in (-10 ** 39, 10 ** 39):
                self.assertEqual(refuted(lambda standing: thing, HOUSE, 1), (0, 0, ()), thing)
        # Nobody wants anything, and 0 is not False.
        self.assertEqual(refuted(lambda standing: rest(standing) or False, HOUSE, 1), (0, 0, ()))
        self.assertEqual(refuted(lambda standing: str(rest(standing)), HOUSE, 1), (0, 0, ()))
        self.assertEqual(refuted(lambda standing: True if rest(standing) == 1 else rest(standing), HOUSE, 1),
                         (0, 1, ()))

    def test_own_errors_go_on(self):
        def claim(standing):
            if standing.lift == 1:
                raise KeyError("mine")
            return rest(standing)

        with self.assertRaises(KeyError):
            refuted(claim, HOUSE, 1)
        with self.assertRaises(ZeroDivisionError):
            refuted(lambda standing: 1 // 0, HOUSE, 3)

    def test_bad_numbers(self):
        def never(standing):
            raise AssertionError(standing)

        for thing in [*STRANGERS, 0, 4, -1, True, False]:
            for house in (HOUSE, House(40, 1)):
                with self.assertRaises(BadNumber):
                    refuted(never, house, thing)

    def test_too_many(self):
        def never(standing):
            raise AssertionError(standing)

        let = {1: 27, 2: 8, 3: 5}
        for floors in range(2, 41):
            pairs = floors * (floors - 1)
            for most in (1, 2, 3):
                many = floors * sum(comb(pairs + people - 1, people) for people in range(most + 1))
                self.assertEqual(many <= 20000, floors <= let[most])
                if many > 20000:
                    with self.assertRaises(TooMany) as caught:
                        refuted(never, House(floors, 3), most)
                    self.assertEqual(caught.exception.limit, 20000)

    def test_just_let(self):
        start = time.perf_counter()
        for floors, most in ((27, 1), (8, 2), (5, 3)):
            asked = []
            self.assertIsNone(refuted(lambda standing: asked.append(standing) or rest(standing), House(floors, 1), most))
            self.assertEqual(len(asked), floors * sum(comb(floors * (floors - 1) + people - 1, people)
                                                      for people in range(most + 1)))
        self.assertLess(time.perf_counter() - start, 20)


class FewMoves(unittest.TestCase):
    def test_small(self):
        for floors, room, most in ((2, 1, 3), (3, 1, 3), (4, 2, 2)):
            for standing in small_standings(floors, room, most):
                told = numbers(standing)
                for many in range(sum(told) + 3):
                    gaps = [gap for gap in range(floors - 1) if sum(told[:gap + 1]) > many]
                    self.assertEqual(few_moves(standing, many), (gaps[0], told[gaps[0]]) if gaps else None)

    def test_at_rest_and_beside(self):
        self.assertEqual(numbers(STANDING), (4, 4))
        self.assertEqual([few_moves(STANDING, many) for many in (0, 3, 4, 7, 8, 9, 10 ** 39)],
                         [(0, 4), (0, 4), (1, 4), (1, 4), None, None, None])
        self.assertIsNone(few_moves(DONE, 0))
        great = Standing(House(4, 1), 0, ((0, 1, 10 ** 30), (0, 3, 10 ** 30), (2, 3, 1)))
        self.assertEqual(few_moves(great, 10 ** 30), (0, 4 * 10 ** 30))
        self.assertEqual(few_moves(great, 6 * 10 ** 30), (2, 2 * 10 ** 30 + 2))
        self.assertEqual(few_moves(great, 8 * 10 ** 30 + 1), (2, 2 * 10 ** 30 + 2))
        self.assertIsNone(few_moves(great, 8 * 10 ** 30 + 2))
        # A gap whose number is 0 is never the one.
        self.assertEqual(few_moves(Standing(House(4, 1), 2, ((2, 3, 1),)), 1), (1, 1))

    def test_bad_numbers(self):
        for thing in [*STRANGERS, -1, True, False]:
            if thing == 10 ** 39:
                continue
            for standing in (STANDING, DONE):
                with self.assertRaises(BadNumber):
                    few_moves(standing, thing)


if __name__ == "__main__":
    unittest.main()
