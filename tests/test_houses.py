import unittest

from tests.small import HOUSE, STANDING, STRANGERS
from willinglift.errors import BadFloor, BadGroups, BadHouse, BadLift, BadStanding, LiftError
from willinglift.houses import (House, Standing, is_done, people, restless, standing_at, standing_of)
from willinglift.moves import is_move, moved


class Houses(unittest.TestCase):
    def refused(self, part, *told):
        with self.assertRaises(BadHouse) as caught:
            House(*told)
        self.assertEqual(caught.exception.part, part)

    def test_edges(self):
        for floors, room in ((2, 1), (40, 10 ** 12), (2, 10 ** 12), (40, 1)):
            house = House(floors, room)
            self.assertEqual((house.floors, house.room), (floors, room))
        for floors in (1, 0, -2, 41, 10 ** 39, True, "2"):
            self.refused("floors", floors, 1)
            self.refused("floors", floors, 0)
        for room in (0, -1, 10 ** 12 + 1, 10 ** 39, True, False, None, "1"):
            self.refused("room", 2, room)

    def test_strangers(self):
        for thing in STRANGERS:
            self.refused("floors", thing, 1)
            self.refused("floors", thing, thing)
            self.refused("room", 2, thing)

    def test_equality(self):
        self.assertTrue(House(3, 2) == House(3, 2))
        self.assertFalse(House(3, 2) != House(3, 2))
        for other in (House(4, 2), House(3, 3), STANDING, (3, 2), None, 3, "House", [], LiftError(), BadHouse("room")):
            self.assertTrue(House(3, 2) != other)
            self.assertFalse(House(3, 2) == other)
            self.assertFalse(other == House(3, 2))


class Standings(unittest.TestCase):
    def refused(self, part, *told):
        with self.assertRaises(BadStanding) as caught:
            Standing(*told)
        self.assertEqual(caught.exception.part, part)

    def test_attributes(self):
        groups = ((0, 0, 5), (0, 2, 1), (2, 1, 10 ** 30))
        standing = Standing(HOUSE, 2, groups)
        self.assertEqual((standing.house, standing.lift, standing.groups), (HOUSE, 2, groups))
        self.assertEqual(Standing(HOUSE, 0, ()).groups, ())

    def test_first_wrong_part(self):
        self.refused("house", None, -1, None)
        self.refused("lift", HOUSE, 3, None)
        self.refused("lift", HOUSE, -1, ())
        self.refused("lift", HOUSE, True, ())
        self.refused("groups", HOUSE, 2, None)

    def test_strangers(self):
        for thing in STRANGERS:
            if thing is not HOUSE:
                self.refused("house", thing, thing, thing)
            self.refused("lift", HOUSE, thing, thing)
            if thing != ():
                self.refused("groups", HOUSE, 0, thing)
                self.refused("groups", HOUSE, 0, (thing,))
                self.refused("groups", HOUSE, 0, ((0, 2, 1), thing))
                for at in range(3):
                    group = [1, 2, 1]
                    group[at] = thing
                    if not (at == 2 and thing == 10 ** 39):
                        self.refused("groups", HOUSE, 0, (tuple(group),))

    def test_wrong_groups(self):
        for groups in ([], [(0, 1, 1)], ([0, 1, 1],), ((0, 1),), ((0, 1, 1, 1),), ((0, 1, 0),), ((0, 1, -1),),
                       ((0, 3, 1),), ((3, 0, 1),), ((-1, 0, 1),), ((0, -1, 1),), ((True, 0, 1),), ((0, True, 1),),
                       ((0, 1, True),), ((0, 1, 1), (0, 1, 1)), ((0, 1, 1), (0, 1, 2)), ((0, 1, 1), (0, 0, 1)),
                       ((1, 0, 1), (0, 1, 1)), ((0, 1, 10 ** 30 + 1),), (0, 1, 1)):
            self.refused("groups", HOUSE, 0, groups)

    def test_most_groups_and_people(self):
        house = House(21, 1)
        rows = [(stand, want, 1) for stand in range(21) for want in range(21)]
        self.assertEqual(len(Standing(house, 0, tuple(rows[:400])).groups), 400)
        self.refused("groups", house, 0, tuple(rows[:401]))
        self.assertEqual(Standing(house, 0, ((0, 1, 10 ** 30),)).groups[0][2], 10 ** 30)
        self.refused("groups", house, 0, ((0, 1, 10 ** 30 + 1),))

    def test_equality(self):
        one = Standing(House(3, 2), 1, ((0, 2, 1),))
        self.assertTrue(one == Standing(House(3, 2), 1, ((0, 2, 1),)))
        self.assertFalse(one != Standing(House(3, 2), 1, ((0, 2, 1),)))
        for other in (Standing(House(3, 1), 1, ((0, 2, 1),)), Standing(House(4, 2), 1, ((0, 2, 1),)),
                      Standing(House(3, 2), 0, ((0, 2, 1),)), Standing(House(3, 2), 1, ((0, 2, 2),)),
                      Standing(House(3, 2), 1, ()), HOUSE, None, (HOUSE, 1, ((0, 2, 1),)), 1, "x", BadLift()):
            self.assertTrue(one != other)
            self.assertFalse(one == other)
            self.assertFalse(other == one)

    def test_returned_ones_may_be_greater(self):
        house = House(40, 10 ** 12)
        rows = [(stand, want, 10 ** 30) for stand in range(40) for want in range(40)] * 3
        standing = standing_of(house, 7, rows)
        self.assertEqual(len(standing.groups), 1600)
        self.assertEqual(standing.groups[41], (1, 1, 3 * 10 ** 30))
        self.assertEqual(people(standing), 4800 * 10 ** 30)
        self.assertEqual(len(restless(standing).groups), 1560)
        self.assertEqual(standing_at(standing, 39), {want: 3 * 10 ** 30 for want in range(40)})
        self.assertFalse(is_done(standing))
        self.assertTrue(is_move(standing, (1, ((3, 10 ** 12),))))
        self.assertEqual(len(moved(standing, (-1, ((3, 10 ** 12),))).groups), 1600)
        self.assertEqual(standing, standing_of(house, 7, standing.groups))


class StandingOf(unittest.TestCase):
    def refused(self, index, rows):
        with self.assertRaises(BadGroups) as caught:
            standing_of(HOUSE, 0, rows)
        self.assertEqual(caught.exception.index, index)

    def test_any_order_and_added(self):
        rows = [(2, 1, 4), (0, 2, 1), (2, 1, 6), (0, 0, 3), (0, 2, 1)]
        for told in (rows, tuple(rows), rows[::-1]):
            standing = standing_of(HOUSE, 1, told)
            self.assertEqual((standing.house, standing.lift), (HOUSE, 1))
            self.assertEqual(standing.groups, ((0, 0, 3), (0, 2, 2), (2, 1, 10)))
        self.assertEqual(rows[0], (2, 1, 4))
        self.assertEqual(standing_of(HOUSE, 1, []), Standing(HOUSE, 1, ()))
        self.assertEqual(standing_of(HOUSE, 1, [(0, 1, 10 ** 39)]).groups, ((0, 1, 10 ** 39),))

    def test_lift_ahead_of_groups(self):
        for lift in [*STRANGERS, -1, 3]:
            with self.assertRaises(BadLift):
                standing_of(HOUSE, lift, None)
            with self.assertRaises(BadLift):
                standing_of(HOUSE, lift, [])

    def test_wrong_groups(self):
        for rows in (None, "abc", {}, 5, range(2), b"ab", HOUSE, STANDING, iter([])):
            self.refused(-1, rows)
        fine = (0, 1, 1)
        for thing in [*STRANGERS, [0, 1, 1], (0, 1), (0, 3, 1), (3, 0, 1), (0, 1, 0), (0, -1, 1), (True, 1, 1),
                      (0, 1, True), (0, False, 1)]:
            self.refused(0, [thing])
            self.refused(2, [fine, fine, thing, None])
            self.refused(1, (fine, thing))


class Readings(unittest.TestCase):
    def test_is_done(self):
        self.assertTrue(is_done(Standing(HOUSE, 0, ())))
        self.assertTrue(is_done(Standing(HOUSE, 0, ((0, 0, 1), (2, 2, 5)))))
        self.assertFalse(is_done(Standing(HOUSE, 1, ())))
        self.assertFalse(is_done(Standing(HOUSE, 2, ((2, 2, 5),))))
        self.assertFalse(is_done(Standing(HOUSE, 0, ((0, 0, 1), (2, 1, 1)))))
        for thing in STRANGERS:
            self.assertIs(is_done(thing), False)

    def test_people(self):
        self.assertEqual(people(Standing(HOUSE, 0, ())), 0)
        self.assertEqual(people(Standing(HOUSE, 0, ((0, 0, 4), (0, 1, 2), (2, 0, 10 ** 30)))), 10 ** 30 + 6)

    def test_standing_at(self):
        standing = Standing(HOUSE, 1, ((0, 0, 4), (0, 2, 2), (2, 0, 1)))
        self.assertEqual([standing_at(standing, floor) for floor in range(3)], [{0: 4, 2: 2}, {}, {0: 1}])
        one = standing_at(standing, 0)
        one[0] = 99
        one[1] = 1
        self.assertEqual(standing_at(standing, 0), {0: 4, 2: 2})
        for thing in [*STRANGERS, -1, 3]:
            with self.assertRaises(BadFloor):
                standing_at(standing, thing)

    def test_restless(self):
        standing = Standing(HOUSE, 1, ((0, 0, 4), (0, 2, 2), (1, 1, 9), (2, 0, 1)))
        self.assertEqual(restless(standing), Standing(HOUSE, 1, ((0, 2, 2), (2, 0, 1))))
        self.assertEqual(standing.groups, ((0, 0, 4), (0, 2, 2), (1, 1, 9), (2, 0, 1)))
        self.assertEqual(restless(Standing(HOUSE, 0, ())), Standing(HOUSE, 0, ()))


if __name__ == "__main__":
    unittest.main()
