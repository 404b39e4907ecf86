import random
import time
import unittest
from math import comb

from tests.small import STANDING, STRANGERS, small_standings, slow_rests
from tests.small_trees import (drawn_parents, drawn_standing, gathered_groups, is_tree_done, line, slow_counts,
                               slow_number, slow_sum, slow_tree_behind, slow_tree_moves, slow_tree_rest, star)
from willinglift.ends import rest_to
from willinglift.errors import BadFloor, BadMoves, BadRoad, TooMany
from willinglift.gaps import counts, number, rest
from willinglift.houses import House, Standing, standing_of
from willinglift.roads import (is_stuck, line_tree, road_counts, road_number, road_sum, tree_plan, tree_rest,
                               tree_silly_in, tree_ways)
from willinglift.silly import silly_in
from willinglift.trees import Tree, TreeStanding, is_tree_plan
from willinglift.wise import ways

# The lift is amid, and those of two branches want into each other.
STUCK = TreeStanding(Tree((0, 0), 1), 0, ((1, 2, 1), (2, 1, 1)))
DONE = TreeStanding(Tree((0, 0), 1), 0, ((0, 0, 5), (2, 2, 1)))


def drawn(seed, many, places=7, room=3, groups=5, people=2):
    source = random.Random(seed)
    for _ in range(many):
        yield drawn_standing(source, source.randint(2, places), source.randint(1, room), source.randint(0, groups),
                             people)


def crossed(seed, many):
    """Standings with the lift amid, where people want from branch to branch."""
    source = random.Random(seed)
    for _ in range(many):
        parents, ends = source.choice((((0, 0), (1, 2)), ((0, 1, 1), (2, 3)), ((0, 0, 0), (1, 2, 3))))
        rows = [(*source.sample(ends, 2), 1) for _ in range(source.randint(2, 4))]
        yield TreeStanding(Tree(parents, source.randint(1, 2)), source.randint(0, 1), gathered_groups(rows))


class Roads(unittest.TestCase):
    def look(self, standing):
        numbers = []
        for road in range(1, len(standing.tree.parents) + 1):
            told = road_counts(standing, road)
            self.assertIsInstance(told, tuple)
            self.assertIs(type(told[2]), bool)
            self.assertEqual(told, slow_counts(standing, road))
            numbers.append(road_number(standing, road))
            self.assertEqual(numbers[-1], slow_number(standing, road))
        self.assertEqual(road_sum(standing), sum(numbers))
        self.assertEqual(road_sum(standing) == 0, is_tree_done(standing))

    def test_drawn(self):
        for standing in drawn(121, 300):
            self.look(standing)
        for standing in drawn(122, 60, places=20, room=5, groups=30, people=9):
            self.look(standing)

    def test_great(self):
        source = random.Random(123)
        for room in (1, 10 ** 6, 10 ** 12):
            for parents in (line(20), star(20), drawn_parents(source, 20), drawn_parents(source, 20)):
                rows = [(stand, want, source.randint(1, 10 ** 30)) for stand in range(20) for want in range(20)]
                self.look(TreeStanding(Tree(parents, room), source.randrange(20), tuple(rows)))

    def test_by_hand(self):
        standing = TreeStanding(Tree((0, 1, 1), 2), 2, ((0, 2, 3), (2, 3, 5), (3, 3, 9)))
        self.assertEqual([road_counts(standing, road) for road in (1, 2, 3)],
                         [(3, 0, True), (3, 5, True), (5, 0, True)])
        self.assertEqual([road_number(standing, road) for road in (1, 2, 3)], [5, 5, 6])
        self.assertEqual(road_sum(standing), 16)
        # Who stands beyond a road, but wants nothing there, does not count.
        self.assertEqual([road_counts(DONE, road) for road in (1, 2)], [(0, 0, False)] * 2)

    def test_lines_are_houses(self):
        for standing in small_standings(3, 2, 3):
            there = line_tree(standing, 0)
            self.assertEqual(there.tree.parents, (0, 1))
            self.assertEqual((there.lift, there.groups), (standing.lift, standing.groups))
            self.assertEqual([road_counts(there, road) for road in (1, 2)], [counts(standing, gap) for gap in (0, 1)])
            self.assertEqual([road_number(there, road) for road in (1, 2)], [number(standing, gap) for gap in (0, 1)])
            self.assertEqual(road_sum(there), rest(standing))
            self.assertEqual([place - there.lift for place in tree_ways(there)], list(ways(standing)))
            self.assertFalse(is_stuck(there))

    def test_no_roads(self):
        for thing in [*STRANGERS, 0, -1, 3, 10 ** 39, True, False]:
            for standing in (STUCK, DONE):
                for call in (road_counts, road_number):
                    with self.assertRaises(BadRoad):
                        call(standing, thing)
        one = TreeStanding(Tree((0,), 1), 1, ())
        self.assertEqual((road_counts(one, 1), road_number(one, 1)), ((0, 0, False), 1))
        for call in (road_counts, road_number):
            with self.assertRaises(BadRoad):
                call(one, True)


class Raised(unittest.TestCase):
    def test_each_move_changes_the_sum_by_one(self):
        stuck = 0
        for standing in [*drawn(124, 400, groups=4), *crossed(131, 150)]:
            low = []
            here = slow_sum(standing)
            for move in slow_tree_moves(standing):
                later = slow_sum(slow_tree_behind(standing, move)) - here
                self.assertIn(later, (1, -1))
                self.assertEqual(tree_silly_in(standing, (move,)), [0] if later == 1 else [])
                low += [move[0]] * (later == -1)
            self.assertEqual(tree_ways(standing), tuple(sorted(set(low))))
            self.assertIs(is_stuck(standing), not low and not is_tree_done(standing))
            stuck += is_stuck(standing)
        self.assertGreater(stuck, 10)

    def test_great_moves(self):
        source = random.Random(125)
        found = 0
        for _ in range(60):
            rows = [(source.randrange(20), source.randrange(20), source.randint(1, 10 ** 29)) for _ in range(5)]
            tree = Tree(drawn_parents(source, 20), source.choice((3, 10 ** 12)))
            lift = source.choice(rows)[0]
            standing = TreeStanding(tree, lift, gathered_groups(rows))
            here = [(want, min(many, tree.room)) for stand, want, many in standing.groups if stand == lift]
            low = []
            for place in range(20):
                for aboard in ((), *[((want, some),) for want, many in here for some in {1, many - 1, many} - {0}]):
                    try:
                        raises = tree_silly_in(standing, ((place, aboard),))
                    except BadMoves:
                        continue
                    found += 1
                    later = slow_tree_behind(TreeStanding(tree, lift, standing.groups), (place, aboard))
                    self.assertEqual(raises, [0] if slow_sum(later) > slow_sum(standing) else [])
                    low += [place] * (raises == [])
            self.assertLessEqual(set(low), set(tree_ways(standing)))
        self.assertGreater(found, 300)

    def test_rows_of_moves(self):
        source = random.Random(126)
        for standing in drawn(127, 60):
            there, moves, places = standing, (), []
            for index in range(12):
                move = source.choice(slow_tree_moves(there))
                later = slow_tree_behind(there, move)
                places += [index] * (slow_sum(later) > slow_sum(there))
                there, moves = later, moves + (move,)
            found = tree_silly_in(standing, moves)
            self.assertEqual(found, places)
            found.append(None)
            self.assertEqual(tree_silly_in(standing, moves), places)
            self.assertEqual(len(moves), slow_sum(standing) - slow_sum(there) + 2 * len(places))

    def test_no_moves(self):
        good = ((1, ()), (0, ((2, 1),)))
        for thing in [*STRANGERS, (1, ((1, 1),)), (0, ()), (3, ()), (True, ()), [1, ()], (-1, ())]:
            for many in (0, 2):
                with self.assertRaises(BadMoves) as caught:
                    tree_silly_in(STUCK, good[:many] + (thing, thing))
                self.assertEqual(caught.exception.index, many)
            if thing != ():
                with self.assertRaises(BadMoves) as caught:
                    tree_silly_in(STUCK, thing)
                self.assertEqual(caught.exception.index, 0 if isinstance(thing, tuple) else -1)
        self.assertEqual(tree_silly_in(STUCK, ()), [])
        with self.assertRaises(BadMoves) as caught:
            tree_silly_in(STUCK, [(1, ())])
        self.assertEqual(caught.exception.index, -1)

    def test_stuck(self):
        self.assertIs(is_stuck(STUCK), True)
        self.assertEqual(tree_ways(STUCK), ())
        self.assertEqual(tree_silly_in(STUCK, ((1, ()),)), [0])
        self.assertEqual((road_sum(STUCK), tree_rest(STUCK)), (4, 6))
        self.assertIs(is_stuck(DONE), False)
        self.assertEqual(tree_ways(DONE), ())
        self.assertIs(is_stuck(TreeStanding(Tree((0, 0), 1), 1, STUCK.groups)), False)
        for thing in [*STRANGERS, STANDING, STUCK.tree]:
            self.assertIs(is_stuck(thing), False)


class Shortest(unittest.TestCase):
    def test_against_all_standings(self):
        source = random.Random(128)
        longer = 0
        drawn_ones = [drawn_standing(source, source.randint(2, 5), source.randint(1, 3), source.randint(0, 3), 2)
                      for _ in range(120)]
        for standing in [*drawn_ones, *crossed(132, 80)]:
            least, many = slow_tree_rest(standing, 800)
            if least is not None:
                self.assertEqual(tree_rest(standing), least)
                moves = tree_plan(standing)
                self.assertEqual(len(moves), least)
                self.assertIs(is_tree_plan(standing, moves), True)
                self.assertEqual(least, road_sum(standing) + 2 * len(tree_silly_in(standing, moves)))
                longer += least > road_sum(standing)
        self.assertGreater(longer, 3)

    def test_stuck_ones(self):
        for parents, room, lift, groups in (((0, 0), 2, 0, ((1, 2, 1), (2, 0, 1), (2, 1, 1))),
                                            ((0, 1, 1), 1, 1, ((2, 3, 1), (3, 2, 1))),
                                            ((0, 0, 0), 1, 0, ((1, 2, 1), (2, 3, 1), (3, 1, 1))),
                                            ((0, 0, 1, 1), 2, 1, ((3, 4, 1), (4, 3, 1))),
                                            # Moves that raise the sum lead to an end here that is farther in all.
                                            ((0, 0, 1, 2, 3), 2, 0, ((2, 1, 1), (4, 5, 2), (5, 4, 2)))):
            standing = TreeStanding(Tree(parents, room), lift, groups)
            least, _ = slow_tree_rest(standing, 20000)
            self.assertGreater(least, road_sum(standing))
            self.assertEqual((tree_rest(standing), len(tree_plan(standing))), (least, least))

    def test_lines(self):
        for standing in small_standings(3, 1, 2):
            self.assertEqual(tree_rest(line_tree(standing, 0)), rest(standing))
        for floors, room, wants in ((3, 1, (0, 2)), (4, 2, (1, 3)), (4, 1, (0, 2))):
            house = House(floors, room)
            for end in range(floors):
                for (lift, groups), least in list(slow_rests(house, wants, end).items())[::3]:
                    standing = standing_of(house, lift, groups)
                    there = line_tree(standing, end)
                    self.assertEqual(tree_rest(there), least)
                    self.assertTrue(is_tree_plan(there, tree_plan(there)))
                    if lift == 0:
                        self.assertEqual(rest_to(standing, end), least)

    def test_done(self):
        self.assertEqual((tree_rest(DONE), tree_plan(DONE)), (0, ()))
        far = TreeStanding(Tree(line(20), 1), 19, ())
        self.assertEqual(tree_plan(far), tuple((place, ()) for place in range(19))[::-1])

    def test_limit(self):
        start = time.perf_counter()
        for places, let, beyond, room in ((2, ((0, 1, 9999),), ((0, 1, 10000),), 1),
                                          (2, ((0, 1, 9999),), ((1, 1, 10000),), 10 ** 12),
                                          (2, ((0, 1, 124), (1, 0, 79)), ((0, 1, 125), (1, 0, 79)), 50),
                                          (3, ((1, 2, 113),), ((1, 2, 114),), 3),
                                          (3, ((1, 2, 11), (2, 1, 11)), ((1, 2, 11), (2, 1, 12)), 1),
                                          (20, ((5, 7, 1), (7, 5, 1)), ((3, 4, 1), (5, 7, 1), (7, 5, 1)), 1),
                                          (20, ((5, 7, 2),), ((0, 0, 1), (5, 7, 2)), 1)):
            for parents in (line(places), star(places)):
                tree = Tree(parents, room)
                standings = [TreeStanding(tree, 0, groups) for groups in (let, beyond)]
                many = [places for _ in standings]
                for at, standing in enumerate(standings):
                    totals = {}
                    for _, want, people in standing.groups:
                        totals[want] = totals.get(want, 0) + people
                    for people in totals.values():
                        many[at] *= comb(people + places - 1, places - 1)
                self.assertLessEqual(many[0], 20000)
                self.assertGreater(many[1], 20000)
                moves = tree_plan(standings[0])
                self.assertTrue(is_tree_plan(standings[0], moves))
                self.assertEqual(len(moves), tree_rest(standings[0]))
                for call in (tree_rest, tree_plan):
                    with self.assertRaises(TooMany) as caught:
                        call(standings[1])
                    self.assertEqual(caught.exception.limit, 20000)
        self.assertLess(time.perf_counter() - start, 20)

    def test_counts_of_standings(self):
        for standing in drawn(129, 60, places=4, groups=3):
            _, many = slow_tree_rest(standing, 3000)
            if many <= 3000:
                totals = {}
                for _, want, people in standing.groups:
                    totals[want] = totals.get(want, 0) + people
                places = len(standing.tree.parents) + 1
                told = places
                for people in totals.values():
                    told *= comb(people + places - 1, places - 1)
                self.assertEqual(many, told)

    def test_enormous_ones_are_refused_soon(self):
        start = time.perf_counter()
        rows = tuple((stand, want, 10 ** 30) for stand in range(20) for want in range(20))
        for groups in (rows, rows[:1], rows[:20]):
            with self.assertRaises(TooMany):
                tree_rest(TreeStanding(Tree(star(20), 10 ** 12), 3, groups))
        self.assertLess(time.perf_counter() - start, 2)

    def test_some_thousand_standings(self):
        source = random.Random(130)
        start = time.perf_counter()
        many = 0
        while many < 60:
            standing = drawn_standing(source, source.randint(3, 8), source.randint(1, 4), source.randint(2, 5),
                                      source.choice((1, 3, 9)))
            try:
                moves = tree_plan(standing)
            except TooMany:
                continue
            many += 1
            self.assertTrue(is_tree_plan(standing, moves))
            self.assertEqual(len(moves), road_sum(standing) + 2 * len(tree_silly_in(standing, moves)))
        self.assertLess(time.perf_counter() - start, 20)


class Lines(unittest.TestCase):
    def test_by_hand(self):
        standing = Standing(House(5, 7), 3, ((0, 4, 1), (1, 1, 2), (2, 0, 3), (4, 2, 4)))
        for end, parents, lift, groups in (
                (0, (0, 1, 2, 3), 3, ((0, 4, 1), (1, 1, 2), (2, 0, 3), (4, 2, 4))),
                # The floors 2, 3, 4, 1, 0.
                (2, (0, 1, 0, 3), 1, ((0, 4, 3), (2, 0, 4), (3, 3, 2), (4, 2, 1))),
                # The floors 1, 2, 3, 4, 0.
                (1, (0, 1, 2, 0), 2, ((0, 0, 2), (1, 4, 3), (3, 1, 4), (4, 3, 1))),
                # The floors 4, 3, 2, 1, 0.
                (4, (0, 1, 2, 3), 1, ((0, 2, 4), (2, 4, 3), (3, 3, 2), (4, 0, 1)))):
            there = line_tree(standing, end)
            self.assertIsInstance(there, TreeStanding)
            self.assertEqual(there, TreeStanding(Tree(parents, 7), lift, groups))
        self.assertEqual(line_tree(Standing(House(2, 1), 0, ()), 1), TreeStanding(Tree((0,), 1), 1, ()))

    def test_no_floors(self):
        for thing in [*STRANGERS, -1, 3, True, False]:
            with self.assertRaises(BadFloor):
                line_tree(STANDING, thing)
        # A floor is asked for ahead of how many there are.
        for thing in (-1, 21, None, True):
            with self.assertRaises(BadFloor):
                line_tree(Standing(House(21, 1), 0, ()), thing)

    def test_too_many(self):
        for floors in (21, 22, 40):
            for end in (0, 20):
                with self.assertRaises(TooMany) as caught:
                    line_tree(Standing(House(floors, 1), 0, ()), end)
                self.assertEqual(caught.exception.limit, 20)
        for end in range(20):
            there = line_tree(Standing(House(20, 1), 0, ((19, 0, 1),)), end)
            self.assertEqual(len(there.tree.parents), 19)
            self.assertEqual(tree_rest(there), 38 + end)

    def test_beyond_the_bounds(self):
        rows = [(stand, want, 10 ** 39) for stand in range(20) for want in range(20)] * 2
        there = line_tree(standing_of(House(20, 1), 0, rows), 11)
        self.assertEqual(there.groups, tuple((stand, want, 2 * 10 ** 39) for stand in range(20) for want in range(20)))
        self.assertEqual(road_counts(there, 1)[0], 2 * 10 ** 39 * 12 * 8)


if __name__ == "__main__":
    unittest.main()
