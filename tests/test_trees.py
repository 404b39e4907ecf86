import random
import time
import unittest

from tests.small import HOUSE, STRANGERS, nested
from tests.small_trees import (drawn_parents, drawn_standing, gathered_groups, is_tree_done, line, slow_tree_behind,
                               slow_tree_moves, star)
from willinglift.errors import BadHouse, BadMove, BadStanding, BadTree, LiftError
from willinglift.houses import House, Standing
from willinglift.trees import Tree, TreeStanding, is_tree_move, is_tree_plan, tree_moved

FORK = Tree((0, 1, 1), 2)
# Place 1 lies amid, with places 0, 2 and 3 around it.
STAND = TreeStanding(FORK, 1, ((0, 2, 1), (1, 0, 1), (1, 2, 3), (1, 3, 1), (3, 1, 2)))
MORE_STRANGERS = [*STRANGERS, FORK, STAND, (FORK,), (0, FORK), (2, STAND), (2, ((FORK, 1),)), (True, ()), (2, None)]


class Trees(unittest.TestCase):
    def refused(self, part, *told):
        with self.assertRaises(BadTree) as caught:
            Tree(*told)
        self.assertEqual(caught.exception.part, part)

    def test_edges(self):
        for parents in ((0,), (0, 0), (0, 1), line(20), star(20), drawn_parents(random.Random(1), 20)):
            for room in (1, 10 ** 12):
                tree = Tree(parents, room)
                self.assertEqual((tree.parents, tree.room), (parents, room))
        for parents in ((), (0,) * 20, line(21), (1,), (-1,), (0, 2), (0, 1, 3), (0, -1), (True,), (False,), (0, True),
                        [0], (0, "0"), (0, None), ((0,),), None, 0, "0"):
            self.refused("parents", parents, 1)
            self.refused("parents", parents, 0)
        for room in (0, -1, 10 ** 12 + 1, 10 ** 39, True, False, None, "1", (1,)):
            self.refused("room", (0,), room)

    def test_each_parent(self):
        for at in range(19):
            parents = list(line(20))
            parents[at] = at + 1
            self.refused("parents", tuple(parents), 1)
            parents[at] = 0
            self.assertEqual(Tree(tuple(parents), 1).parents, tuple(parents))

    def test_strangers(self):
        for thing in MORE_STRANGERS:
            self.refused("parents", thing, 1)
            self.refused("parents", thing, thing)
            self.refused("parents", (0, thing), 1)
            self.refused("room", (0,), thing)

    def test_equality(self):
        self.assertTrue(Tree((0, 1), 2) == Tree((0, 1), 2))
        self.assertFalse(Tree((0, 1), 2) != Tree((0, 1), 2))
        for other in [*STRANGERS, Tree((0, 0), 2), Tree((0, 1), 3), Tree((0,), 2), House(3, 2), (0, 1), ((0, 1), 2),
                      LiftError(), BadTree("room"), STAND]:
            self.assertTrue(Tree((0, 1), 2) != other)
            self.assertFalse(Tree((0, 1), 2) == other)
            self.assertFalse(other == Tree((0, 1), 2))


class Standings(unittest.TestCase):
    def refused(self, part, *told):
        with self.assertRaises(BadStanding) as caught:
            TreeStanding(*told)
        self.assertEqual(caught.exception.part, part)

    def test_attributes(self):
        groups = ((0, 0, 5), (0, 3, 1), (2, 1, 10 ** 30))
        standing = TreeStanding(FORK, 3, groups)
        self.assertEqual((standing.tree, standing.lift, standing.groups), (FORK, 3, groups))
        self.assertEqual(TreeStanding(FORK, 0, ()).groups, ())

    def test_first_wrong_part(self):
        self.refused("tree", None, -1, None)
        self.refused("tree", HOUSE, 0, ())
        self.refused("tree", STAND, 0, ())
        self.refused("lift", FORK, 4, None)
        self.refused("lift", FORK, -1, ())
        self.refused("lift", FORK, True, ())
        self.refused("groups", FORK, 3, None)

    def test_strangers(self):
        for thing in MORE_STRANGERS:
            if thing is not FORK:
                self.refused("tree", thing, thing, thing)
            self.refused("lift", FORK, thing, thing)
            if thing != ():
                self.refused("groups", FORK, 0, thing)
                self.refused("groups", FORK, 0, (thing,))
                self.refused("groups", FORK, 0, ((0, 2, 1), thing))
            for at in range(3):
                group = [1, 2, 1]
                group[at] = thing
                if not (at == 2 and thing == 10 ** 39):
                    self.refused("groups", FORK, 0, (tuple(group),))

    def test_wrong_groups(self):
        for groups in ([], [(0, 1, 1)], ([0, 1, 1],), ((0, 1),), ((0, 1, 1, 1),), ((0, 1, 0),), ((0, 1, -1),),
                       ((0, 4, 1),), ((4, 0, 1),), ((-1, 0, 1),), ((0, -1, 1),), ((True, 0, 1),), ((0, True, 1),),
                       ((0, 1, True),), ((0, 1, 1), (0, 1, 1)), ((0, 1, 1), (0, 1, 2)), ((0, 1, 1), (0, 0, 1)),
                       ((1, 0, 1), (0, 1, 1)), ((0, 1, 10 ** 30 + 1),), (0, 1, 1)):
            self.refused("groups", FORK, 0, groups)

    def test_many_groups(self):
        tree = Tree(star(20), 1)
        pairs = [(stand, want, 1) for stand in range(20) for want in range(20)]
        self.assertEqual(len(TreeStanding(tree, 19, tuple(pairs)).groups), 400)
        self.refused("groups", tree, 19, tuple(pairs + [(20, 0, 1)]))
        self.refused("groups", tree, 19, tuple(pairs + pairs[-1:]))
        self.refused("lift", tree, 20, ())

    def test_equality(self):
        groups = ((0, 1, 1),)
        one = TreeStanding(FORK, 1, groups)
        self.assertTrue(one == TreeStanding(Tree((0, 1, 1), 2), 1, ((0, 1, 1),)))
        self.assertFalse(one != TreeStanding(FORK, 1, groups))
        for other in [*STRANGERS, TreeStanding(Tree((0, 1, 1), 3), 1, groups), TreeStanding(FORK, 0, groups),
                      TreeStanding(FORK, 1, ((0, 1, 2),)), TreeStanding(Tree((0, 1, 2), 2), 1, groups), FORK,
                      Standing(House(4, 2), 1, groups), groups, LiftError(), BadStanding("tree"), BadHouse("room")]:
            self.assertTrue(one != other)
            self.assertFalse(one == other)
            self.assertFalse(other == one)


class Moves(unittest.TestCase):
    def drawn(self, seed, many):
        source = random.Random(seed)
        for _ in range(many):
            yield drawn_standing(source, source.randint(2, 7), source.randint(1, 3), 5, 2)

    def test_against_all_moves(self):
        for standing in self.drawn(111, 150):
            groups = standing.groups
            moves = slow_tree_moves(standing)
            for move in moves:
                self.assertIs(is_tree_move(standing, move), True)
                later = tree_moved(standing, move)
                self.assertIsInstance(later, TreeStanding)
                self.assertEqual(later, slow_tree_behind(standing, move))
            self.assertEqual(standing.groups, groups)
            places = range(-1, len(standing.tree.parents) + 2)
            for place in places:
                for aboard in {aboard for _, aboard in moves}:
                    self.assertIs(is_tree_move(standing, (place, aboard)), (place, aboard) in moves)

    def test_up_and_down_a_road(self):
        for move in ((0, ()), (2, ()), (3, ()), (2, ((2, 2),)), (0, ((2, 1), (3, 1))), (3, ((0, 1), (3, 1)))):
            self.assertTrue(is_tree_move(STAND, move))
        self.assertEqual(tree_moved(STAND, (2, ((2, 2),))).groups,
                         ((0, 2, 1), (1, 0, 1), (1, 2, 1), (1, 3, 1), (2, 2, 2), (3, 1, 2)))
        self.assertEqual(tree_moved(STAND, (0, ((2, 1), (3, 1)))),
                         TreeStanding(FORK, 0, ((0, 2, 2), (0, 3, 1), (1, 0, 1), (1, 2, 2), (3, 1, 2))))
        self.assertEqual(tree_moved(tree_moved(STAND, (3, ((2, 2),))), (1, ((2, 2),))), STAND)
        for place in (-1, 1, 4, 5, 10 ** 39):
            self.assertFalse(is_tree_move(STAND, (place, ())))
        # Places 2 and 3 have no road between them, place 1 has none to itself.
        self.assertFalse(is_tree_move(TreeStanding(FORK, 2, ()), (3, ())))
        self.assertFalse(is_tree_move(TreeStanding(FORK, 3, ()), (0, ())))

    def test_aboard(self):
        for aboard in (((2, 3),), ((0, 2),), ((1, 1),), ((2, 0),), ((2, -1),), ((2, 1), (2, 1)), ((3, 1), (2, 1)),
                       ((0, 1), (2, 1), (3, 1)), ((2, True),), [(2, 1)], ([2, 1],), ((2,),), ((2, 1, 1),), (2, 1),
                       ((True, 1),), ((4, 1),), ((-1, 1),), None, "", {}):
            for place in (0, 2, 3):
                self.assertIs(is_tree_move(STAND, (place, aboard)), False)
                with self.assertRaises(BadMove):
                    tree_moved(STAND, (place, aboard))

    def test_strangers(self):
        for thing in MORE_STRANGERS:
            for move in (thing, (thing, ()), (2, (thing,)), (2, ((thing, 1),)), (2, ((2, thing),)), (2, (), thing)):
                self.assertIs(is_tree_move(STAND, move), False)
                with self.assertRaises(BadMove):
                    tree_moved(STAND, move)
            if thing != ():
                self.assertIs(is_tree_move(STAND, (2, thing)), False)
        self.assertIs(is_tree_move(STAND, [2, ()]), False)
        self.assertIs(is_tree_move(STAND, (2, nested(37, tuple))), False)

    def test_beyond_the_bounds(self):
        standing = TreeStanding(Tree((0,), 10 ** 12), 0, ((0, 0, 10 ** 12), (1, 0, 10 ** 30)))
        later = tree_moved(standing, (1, ((0, 10 ** 12),)))
        self.assertEqual(later.groups, ((1, 0, 10 ** 30 + 10 ** 12),))
        self.assertTrue(is_tree_move(later, (0, ((0, 10 ** 12),))))
        self.assertEqual(tree_moved(later, (0, ((0, 10 ** 12),))), standing)


class Plans(unittest.TestCase):
    def test_drawn_moves(self):
        source = random.Random(112)
        found = 0
        for _ in range(400):
            standing = drawn_standing(source, source.randint(2, 4), 2, source.randint(0, 2), 1)
            there = standing
            moves = ()
            for _ in range(12):
                self.assertIs(is_tree_plan(standing, moves), is_tree_done(there))
                found += is_tree_done(there)
                if is_tree_done(there):
                    self.assertIs(is_tree_plan(standing, list(moves)), False)
                    self.assertIs(is_tree_plan(standing, moves + ((there.lift, ()),)), False)
                moves += (source.choice(slow_tree_moves(there)),)
                there = slow_tree_behind(there, moves[-1])
        self.assertGreater(found, 50)

    def test_done(self):
        done = TreeStanding(FORK, 0, ((0, 0, 1), (3, 3, 10 ** 30)))
        self.assertIs(is_tree_plan(done, ()), True)
        self.assertIs(is_tree_plan(done, ((1, ((0, 1),)), (0, ((0, 1),)))), True)
        self.assertIs(is_tree_plan(done, ((1, ((0, 1),)), (0, ()))), False)
        for other in (TreeStanding(FORK, 1, ()), TreeStanding(FORK, 0, ((0, 1, 1),))):
            self.assertIs(is_tree_plan(other, ()), False)

    def test_strangers(self):
        done = TreeStanding(FORK, 0, ())
        for thing in MORE_STRANGERS:
            if thing != ():
                self.assertIs(is_tree_plan(done, thing), False)
            self.assertIs(is_tree_plan(done, (thing,)), False)
            self.assertIs(is_tree_plan(done, ((1, ()), (0, ()), thing)), False)
        self.assertIs(is_tree_plan(done, [(1, ()), (0, ())]), False)

    def test_great(self):
        start = time.perf_counter()
        rows = [(stand, want, 10 ** 30) for stand in range(20) for want in range(20)]
        standing = TreeStanding(Tree(drawn_parents(random.Random(113), 20), 10 ** 12), 0, gathered_groups(rows))
        to_and_fro = ((1, ((5, 10 ** 12),)), (0, ((5, 10 ** 12),)))
        self.assertIs(is_tree_plan(standing, to_and_fro * 2500), False)
        done = TreeStanding(standing.tree, 0, tuple(group for group in rows if group[0] == group[1]))
        self.assertIs(is_tree_plan(done, ((1, ((0, 10 ** 12),)), (0, ((0, 10 ** 12),))) * 2500), True)
        self.assertLess(time.perf_counter() - start, 10)


if __name__ == "__main__":
    unittest.main()
