import random
import time
import unittest

from tests.small import STANDING, STRANGERS, slow_moves
from willinglift.errors import BadLog, BadMoves, TooMany
from willinglift.houses import House, Standing, standing_of
from willinglift.logs import as_log, behind_log, is_log, length_of, written_out
from willinglift.moves import behind

UP, DOWN = (1, ()), (-1, ())
TRIP = ((1, ((1, 1),)), DOWN)
HUGE = 10 ** 30


def times(many, *log):
    return ("times", many, log)


def deep(many, depth):
    """A log nested so deep, with so many rounds at each depth."""
    log = (UP, DOWN)
    for _ in range(depth):
        log = (("times", many, log),)
    return log


class Built(unittest.TestCase):
    """What is a log at all, whatever can be made of it."""

    def refused(self, thing):
        self.assertIs(is_log(STANDING, thing), False)
        for judge in (length_of, written_out, lambda log: behind_log(STANDING, log)):
            with self.assertRaises(BadLog):
                judge(thing)

    def test_lengths(self):
        self.assertEqual(length_of(()), 0)
        self.assertEqual(length_of((UP, DOWN, UP)), 3)
        self.assertEqual(length_of((times(1, UP),)), 1)
        self.assertEqual(length_of((times(10 ** 20, *TRIP),)), 2 * 10 ** 20)
        self.assertEqual(length_of((UP, times(3, UP, times(4, DOWN, UP), DOWN), times(5, UP))), 1 + 3 * 10 + 5)
        self.assertEqual(length_of(deep(HUGE, 3)), 2 * HUGE ** 3)
        # Moves may be impossible.
        self.assertEqual(length_of((times(7, (1, ((0, 1), (99, 10 ** 39))), (-1, ((10 ** 39, 1),))),)), 14)

    def test_depth(self):
        for depth in range(4):
            self.assertIs(is_log(STANDING, deep(2, depth)), True)
            self.assertEqual(length_of(deep(2, depth)), 2 ** (depth + 1))
        self.refused(deep(2, 4))
        self.refused(deep(1, 4))
        self.refused((UP, DOWN, deep(2, 4)[0]))
        self.refused(deep(2, 40))
        self.assertEqual(length_of(deep(2, 3) + deep(2, 1) + (UP,)), 21)

    def test_many_written(self):
        fine = (UP, DOWN) * 100
        self.assertIs(is_log(STANDING, fine), True)
        self.assertEqual(length_of(fine), 200)
        self.refused(fine + (UP,))
        parts = tuple(times(HUGE, UP, DOWN) for _ in range(100))
        self.assertIs(is_log(STANDING, parts), True)
        self.assertEqual(length_of((("times", 2, parts),)), 400 * HUGE)
        self.refused(parts + (UP,))
        self.refused((("times", 2, parts + (UP,)),))
        self.refused((UP, ("times", 2, parts)))
        wide = (UP, DOWN)
        for _ in range(3):
            wide = (("times", 2, wide),) * 100000
        self.refused(wide)

    def test_rounds_of_any_number(self):
        self.assertEqual(length_of((times(HUGE, UP),)), HUGE)
        for many in (0, -1, HUGE + 1, True, None, "2"):
            self.refused((times(many, UP, DOWN),))
        self.refused((("times", 2, ()),))
        self.refused((("times", 2, [UP]),))
        self.refused((("times", 2, UP),))
        self.refused((("time", 2, (UP,)),))
        self.refused((("times", 2, (UP,), 1),))
        self.refused((["times", 2, (UP,)],))
        self.refused(times(2, UP, DOWN))
        self.refused(UP)
        self.refused([UP])

    def test_moves_in_it(self):
        for move in ((True, ()), (0, ()), (1, [(1, 1)]), (1, ((1, 0),)), (1, ((-1, 1),)), (1, ((1, True),)),
                     (1, ((2, 1), (1, 1))), (1, ((1, 1), (1, 1))), (1, (), ()), (1, ((1, 1, 1),))):
            self.refused((move,))
            self.refused((UP, DOWN, times(2, UP, move)))

    def test_strangers(self):
        for thing in STRANGERS:
            if thing != ():
                self.refused(thing)
            self.refused((thing,))
            self.refused((UP, thing))
            self.refused((times(2, UP, thing),))
            self.refused((("times", 2, thing),))
            self.refused(((thing, 2, (UP,)),) if thing != "times" else None)
            if thing != 10 ** 39:
                self.refused((("times", thing, (UP, DOWN)),))
            self.refused((("times", 2, (UP, (1, thing))),) if thing != () else None)


class Made(unittest.TestCase):
    """What logs do, with the soonness that rounds need."""

    def refused(self, standing, log):
        self.assertIs(is_log(standing, log), False)
        with self.assertRaises(BadLog):
            behind_log(standing, log)

    def reaches(self, standing, log, lift, groups):
        self.assertIs(is_log(standing, log), True)
        self.assertEqual(behind_log(standing, log), standing_of(standing.house, lift, groups))

    def test_rounds_of_trips(self):
        standing = Standing(House(2, 1), 0, ((0, 1, 7), (1, 0, 2)))
        self.reaches(standing, (), 0, standing.groups)
        self.reaches(standing, TRIP, 0, [(0, 1, 6), (1, 0, 2), (1, 1, 1)])
        self.reaches(standing, (times(1, *TRIP),), 0, [(0, 1, 6), (1, 0, 2), (1, 1, 1)])
        self.reaches(standing, (times(7, *TRIP),), 0, [(1, 0, 2), (1, 1, 7)])
        self.refused(standing, (times(8, *TRIP),))
        both = ((1, ((1, 1),)), (-1, ((0, 1),)))
        self.reaches(standing, (times(2, *both),), 0, [(0, 0, 2), (0, 1, 5), (1, 1, 2)])
        self.refused(standing, (times(3, *both),))
        self.reaches(standing, (times(2, *both), times(5, *TRIP), UP), 1, [(0, 0, 2), (1, 1, 7)])
        self.refused(standing, (times(2, *both), times(6, *TRIP)))
        self.refused(standing, (times(2, UP),))
        self.refused(standing, (DOWN,))
        self.assertEqual(standing.groups, ((0, 1, 7), (1, 0, 2)))

    def test_who_comes_back(self):
        # The one who is taken up and down again is there for each round.
        standing = Standing(House(2, 1), 0, ((0, 1, 1),))
        self.reaches(standing, (times(HUGE, (1, ((1, 1),)), (-1, ((1, 1),))),), 0, [(0, 1, 1)])
        self.reaches(standing, (times(HUGE, (1, ((1, 1),)), (-1, ((1, 1),))), TRIP[0]), 1, [(1, 1, 1)])
        self.refused(standing, (times(2, TRIP[0], DOWN),))

    def test_who_grows_more_has_to_be_there_at_first(self):
        # Each round brings one more of those down whom it takes up.
        trip = ((1, ((1, 1),)), (-1, ((1, 2),)))
        for many in (1, 2, 3, 30):
            log = (times(many, *trip),)
            self.refused(Standing(House(2, 2), 0, ((1, 1, 40),)), log)
            self.reaches(Standing(House(2, 2), 0, ((0, 1, 1), (1, 1, many))), log, 0, ((0, 1, many + 1),))
            self.refused(Standing(House(2, 2), 0, ((0, 1, 1), (1, 1, many - 1)) if many > 1 else ((0, 1, 1),)), log)

    def test_enormous(self):
        room = 10 ** 12
        standing = standing_of(House(3, room), 0, [(0, 2, HUGE * room), (2, 0, HUGE)])
        trip = ((1, ((2, room),)), (1, ((2, room),)), (-1, ((0, 1),)), (-1, ((0, 1),)))
        start = time.perf_counter()
        self.reaches(standing, (times(HUGE, *trip),), 0, [(2, 2, HUGE * room), (0, 0, HUGE)])
        self.refused(standing, (times(HUGE, *trip), *trip))
        self.refused(standing, (times(HUGE, times(HUGE, *trip)),))
        half = standing_of(standing.house, 0, [(0, 2, 10 ** 90 - 1), (2, 2, 5)])
        single = ((1, ((2, 1),)), (1, ((2, 1),)), DOWN, DOWN)
        self.refused(half, (times(HUGE, times(HUGE, times(HUGE, *single))),))
        full = standing_of(standing.house, 0, [(0, 2, 10 ** 90), (2, 2, 5)])
        self.reaches(full, (times(HUGE, times(HUGE, times(HUGE, *single))),), 0, [(2, 2, 10 ** 90 + 5)])
        self.assertLess(time.perf_counter() - start, 1)

    def test_rounds_that_climb(self):
        house = House(40, 1)
        standing = Standing(house, 0, ((0, 39, 1),))
        lifted = (1, ((39, 1),))
        start = time.perf_counter()
        self.reaches(standing, (times(39, lifted),), 39, [(39, 39, 1)])
        self.refused(standing, (times(40, lifted),))
        self.refused(standing, (times(HUGE, lifted),))
        self.refused(standing, (times(HUGE, times(3, lifted), times(2, DOWN)),))
        self.reaches(standing, (times(39, times(HUGE, lifted, (-1, ((39, 1),))), lifted),), 39, [(39, 39, 1)])
        self.reaches(standing, (times(19, times(3, lifted), (-1, ((39, 1),))), lifted), 39, [(39, 39, 1)])
        climb = (times(13, times(26, UP), times(25, DOWN)),)
        self.reaches(standing, climb, 13, standing.groups)
        self.reaches(standing, (times(HUGE, *climb, times(13, DOWN)),), 0, standing.groups)
        self.refused(standing, (times(HUGE, *climb, times(12, DOWN)),))
        self.assertLess(time.perf_counter() - start, 2)

    def test_room(self):
        standing = Standing(House(2, 2), 0, ((0, 0, 2), (0, 1, 2)))
        self.reaches(standing, ((1, ((0, 1), (1, 1))),), 1, [(0, 0, 1), (0, 1, 1), (1, 0, 1), (1, 1, 1)])
        self.refused(standing, ((1, ((0, 1), (1, 2))),))
        self.refused(standing, (UP, DOWN, times(2, (1, ((0, 1), (1, 2))), DOWN)))
        self.refused(standing, ((1, ((2, 1),)),))

    def test_against_written_out(self):
        source = random.Random(5)
        right = 0
        for _ in range(4000):
            house = House(source.randint(2, 4), source.randint(1, 3))
            pairs = [(source.randrange(house.floors), source.randrange(house.floors)) for _ in range(4)]
            rows = [(stand, want, source.randint(1, 6)) for stand, want in pairs]
            standing = standing_of(house, source.randrange(house.floors), rows)
            log = self.random_log(source, standing, 3)
            moves = written_out(log)
            self.assertEqual(len(moves), length_of(log))
            try:
                other = behind(standing, moves)
            except BadMoves:
                self.refused(standing, log)
            else:
                right += 1
                self.assertIs(is_log(standing, log), True)
                self.assertEqual(behind_log(standing, log), other)
        self.assertGreater(right, 400)

    def random_log(self, source, standing, depth):
        """A log that begins as moves can be made, with rounds put around parts of it."""
        moves = []
        for _ in range(source.randint(1, 6)):
            move = source.choice(slow_moves(standing))
            moves.append(move)
            standing = behind(standing, (move,))
        log = tuple(moves)
        for _ in range(depth):
            if source.random() < 0.7:
                low = source.randrange(len(log))
                high = source.randint(low + 1, len(log))
                log = log[:low] + (("times", source.randint(1, 3), log[low:high]),) + log[high:]
        return log


class Written(unittest.TestCase):
    def test_written_out(self):
        self.assertEqual(written_out(()), ())
        self.assertEqual(written_out((UP, times(2, DOWN, times(2, UP)), TRIP[0])),
                         (UP, DOWN, UP, UP, DOWN, UP, UP, TRIP[0]))

    def test_limit(self):
        self.assertEqual(written_out((times(2500, UP, DOWN),)), (UP, DOWN) * 2500)
        for log in ((times(2500, UP, DOWN), UP), (times(HUGE, UP),), deep(HUGE, 3)):
            with self.assertRaises(TooMany) as caught:
                written_out(log)
            self.assertEqual(caught.exception.limit, 5000)

    def test_as_log(self):
        self.assertEqual(as_log(()), ())
        self.assertEqual(as_log((UP,)), (UP,))
        self.assertEqual(as_log((UP, UP)), (times(2, UP),))
        self.assertEqual(as_log((UP, DOWN, UP, TRIP[0], TRIP[0], TRIP[0], UP)),
                         (UP, DOWN, UP, times(3, TRIP[0]), UP))
        self.assertEqual(as_log(((1, ((77, 10 ** 39),)),) * 3), (times(3, (1, ((77, 10 ** 39),))),))
        for moves in ((UP, DOWN) * 40 + (DOWN,) * 9, (UP,) * 5000, (UP,) * 100000):
            self.assertEqual(length_of(as_log(moves)), len(moves))
        self.assertEqual(written_out(as_log((UP, UP, DOWN) * 50)), (UP, UP, DOWN) * 50)

    def test_as_log_limit(self):
        self.assertEqual(as_log((UP, DOWN) * 100), (UP, DOWN) * 100)
        self.assertEqual(len(as_log((UP, UP, DOWN) * 100)), 200)
        for moves in ((UP, DOWN) * 100 + (UP,), (UP, UP, DOWN) * 100 + (UP,)):
            with self.assertRaises(TooMany) as caught:
                as_log(moves)
            self.assertEqual(caught.exception.limit, 200)

    def test_as_log_refuses_first(self):
        for thing in STRANGERS:
            if thing != ():
                with self.assertRaises(BadLog):
                    as_log(thing)
            with self.assertRaises(BadLog):
                as_log((UP, DOWN) * 150 + (thing,))
        for thing in ([UP], (times(2, UP),), UP, ((1, ((1, 0),)),), ((1, ((1, 1), (1, 1))),)):
            with self.assertRaises(BadLog):
                as_log(thing)


if __name__ == "__main__":
    unittest.main()
