import random
import time
import unittest
from collections import Counter
from fractions import Fraction
from itertools import permutations
from math import comb, gcd

from tests.small import STRANGERS, small_counts
from tests.test_wishes import BAD_COUNTS, HOUSE, STANDS, WANTS
from willinglift.chances import gap_chances, mean_rest
from willinglift.errors import BadCounts, BadGap, TooMany
from willinglift.gaps import counts, rest
from willinglift.houses import House, standing_of
from willinglift.wishes import travel_bounds


def shared_out(house, stands, wants):
    """The Counter of the groups of all ways to share out the wishes among people who are told apart."""
    standers = [floor for floor, many in enumerate(stands) for _ in range(many)]
    wishes = [floor for floor, many in enumerate(wants) for _ in range(many)]
    return Counter(tuple(sorted(Counter(zip(standers, order)).items())) for order in permutations(wishes))


def fraction_of(pair):
    top, bottom = pair
    assert type(pair) is tuple and type(top) is int and type(bottom) is int and bottom > 0 and gcd(top, bottom) == 1
    return Fraction(top, bottom)


class Chances(unittest.TestCase):
    def check(self, house, stands, wants):
        ways = shared_out(house, stands, wants)
        total = sum(ways.values())
        standings = [(standing_of(house, 0, [(*pair, many) for pair, many in groups]), often)
                     for groups, often in ways.items()]
        mean = sum(Fraction(rest(standing) * often, total) for standing, often in standings)
        self.assertEqual(fraction_of(mean_rest(house, stands, wants)), mean)
        for gap in range(house.floors - 1):
            ups = Counter()
            for standing, often in standings:
                ups[counts(standing, gap)[0]] += often
            found = gap_chances(house, stands, wants, gap)
            self.assertIsInstance(found, list)
            self.assertTrue(all(type(row) is tuple and len(row) == 2 for row in found))
            self.assertEqual([(up, fraction_of(chance)) for up, chance in found],
                             [(up, Fraction(often, total)) for up, often in sorted(ups.items())])

    def test_small(self):
        for floors, room, most in ((2, 1, 5), (2, 3, 5), (3, 1, 3), (3, 2, 3), (4, 1, 2)):
            for stands, wants in small_counts(floors, most):
                self.check(House(floors, room), stands, wants)

    def test_mixed(self):
        source = random.Random(41)
        for _ in range(25):
            house = House(source.randint(3, 6), source.randint(1, 3))
            rows = [[source.randrange(house.floors) for _ in range(6)] for _ in range(2)]
            # Whole floors that stay as they are come up seldom by chance.
            if source.random() < 0.5:
                rows[1] = list(rows[0])
            stands, wants = (tuple(row.count(floor) for floor in range(house.floors)) for row in rows)
            self.check(house, stands, wants)

    def test_by_hand(self):
        self.assertEqual(gap_chances(House(2, 1), (2, 1), (1, 2), 0), [(1, (2, 3)), (2, (1, 3))])
        self.assertEqual(mean_rest(House(2, 1), (2, 1), (1, 2)), (8, 3))
        self.assertEqual(gap_chances(House(2, 1), (0, 2), (0, 2), 0), [(0, (1, 1))])
        self.assertEqual(mean_rest(House(2, 1), (0, 2), (0, 2)), (0, 1))
        # Two above stay there, both home or none of them.
        self.assertEqual(mean_rest(House(3, 1), (0, 1, 1), (0, 1, 1)), (2, 1))

    def test_nobody(self):
        for floors in (2, 40):
            nobody = (0,) * floors
            self.assertEqual(mean_rest(House(floors, 1), nobody, nobody), (0, 1))
            for gap in (0, floors - 2):
                self.assertEqual(gap_chances(House(floors, 1), nobody, nobody, gap), [(0, (1, 1))])

    def test_sixty(self):
        start = time.perf_counter()
        for room in (1, 7, 10 ** 12):
            mean = fraction_of(mean_rest(House(2, room), (30, 30), (25, 35)))
            slow = Fraction(0)
            for up in range(5, 31):
                chance = Fraction(comb(35, up) * comb(25, 30 - up), comb(60, 30))
                slow += chance * 2 * max(-(-up // room), -(-(up - 5) // room))
            self.assertEqual(mean, slow)
        source = random.Random(42)
        for _ in range(10):
            rows = [[source.randrange(40) for _ in range(60)] for _ in range(2)]
            stands, wants = (tuple(row.count(floor) for floor in range(40)) for row in rows)
            house = House(40, source.randint(1, 5))
            low, high = travel_bounds(house, stands, wants)
            self.assertTrue(low < fraction_of(mean_rest(house, stands, wants)) < high)
            for gap in range(39):
                found = gap_chances(house, stands, wants, gap)
                self.assertEqual(sum(fraction_of(chance) for _, chance in found), 1)
                self.assertEqual([up for up, _ in found], sorted(up for up, _ in found))
                self.assertTrue(all(chance[0] > 0 for _, chance in found))
                # Each of those below wants above as likely as any other.
                self.assertEqual(sum(up * fraction_of(chance) for up, chance in found),
                                 Fraction(sum(stands[:gap + 1]) * sum(wants[gap + 1:]), 60))
        self.assertLess(time.perf_counter() - start, 10)

    def test_new_each_time(self):
        one = gap_chances(HOUSE, STANDS, WANTS, 0)
        one.append(None)
        self.assertNotIn(None, gap_chances(HOUSE, STANDS, WANTS, 0))


class Refused(unittest.TestCase):
    MANY = (10 ** 30, 0, 0)

    def test_bad_counts_ahead_of_all(self):
        for bad in BAD_COUNTS:
            for stands, wants in ((bad, WANTS), (STANDS, bad), (bad, self.MANY)):
                with self.assertRaises(BadCounts):
                    mean_rest(HOUSE, stands, wants)
                for gap in (0, None, -1, 2):
                    with self.assertRaises(BadCounts):
                        gap_chances(HOUSE, stands, wants, gap)

    def test_bad_gaps_ahead_of_too_many(self):
        for thing in [*STRANGERS, -1, 2, True, False]:
            for stands, wants in ((STANDS, WANTS), (self.MANY, self.MANY), ((0, 0, 0), (0, 0, 0))):
                with self.assertRaises(BadGap):
                    gap_chances(HOUSE, stands, wants, thing)

    def test_too_many(self):
        for stands, wants in (((61, 0, 0), (0, 61, 0)), ((30, 1, 30), (20, 21, 20)), (self.MANY, self.MANY)):
            for call in (lambda: mean_rest(HOUSE, stands, wants), lambda: gap_chances(HOUSE, stands, wants, 1)):
                with self.assertRaises(TooMany) as caught:
                    call()
                self.assertEqual(caught.exception.limit, 60)
        self.assertEqual(mean_rest(HOUSE, (60, 0, 0), (0, 60, 0)), (60, 1))
        self.assertEqual(gap_chances(HOUSE, (60, 0, 0), (0, 60, 0), 0), [(60, (1, 1))])


if __name__ == "__main__":
    unittest.main()
