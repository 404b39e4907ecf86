"""The examples of the document, word for word."""

import unittest

from willinglift.ends import rest_to
from willinglift.gaps import counts, numbers, rest, spare
from willinglift.houses import House, Standing
from willinglift.logs import length_of
from willinglift.news import free_seats, raised
from willinglift.plans import plan
from willinglift.rooms import loads, rest_for, rooms_for
from willinglift.silly import change
from willinglift.strangers import judged
from willinglift.texts import log_text
from willinglift.wise import needs
from willinglift.wishes import least_wishes, most_wishes

first = Standing(House(3, 2), 0, ((0, 2, 3), (1, 2, 1), (2, 0, 1), (2, 1, 1)))
second = Standing(House(3, 1), 1, ((0, 2, 1), (2, 0, 1)))


class Examples(unittest.TestCase):
    def test_e01(self):
        self.assertEqual((counts(first, 0), counts(first, 1), numbers(first), rest(first)),
                         ((3, 1, True), (4, 2, True), (4, 4), 8))

    def test_e02(self):
        self.assertEqual((numbers(second), rest(second), len(plan(second))), ((3, 2), 5, 5))

    def test_e03(self):
        self.assertEqual((change(first, (1, ((2, 2),))), change(first, (1, ((2, 1),))), change(first, (1, ()))),
                         (-1, -1, 1))

    def test_e04(self):
        self.assertEqual((needs(first, 1), needs(second, 1), needs(second, -1)), ((1, 3), None, (0, 0)))

    def test_e05(self):
        self.assertEqual((spare(first, 0), spare(first, 1)), ((1, 3), (0, 2)))

    def test_e06(self):
        self.assertEqual(rest_to(Standing(House(2, 1), 0, ((0, 1, 1),)), 1), 1)

    def test_e07(self):
        self.assertEqual((loads(first), rest_for(first, 1), rooms_for(first, 8)), ((3, 4), 14, (2, 2)))

    def test_e08(self):
        self.assertEqual(least_wishes(House(3, 1), (1, 0, 1), (0, 1, 1)).groups, ((0, 1, 1), (2, 2, 1)))
        self.assertEqual(most_wishes(House(3, 1), (1, 0, 1), (0, 1, 1)).groups, ((0, 2, 1), (2, 1, 1)))

    def test_e09(self):
        self.assertEqual((raised(first, (0, 1, 1)), free_seats(first, 0, 1), free_seats(first, 0, 2)), ((0, 0), 1, 0))

    def test_e10(self):
        self.assertEqual(judged(second, ((-1, ()), (1, ((2, 1),)), (1, ((2, 1),)), (-1, ((0, 1),)), (-1, ((0, 1),)))),
                         ("least", 5))

    def test_e11(self):
        self.assertEqual((length_of((("times", 10 ** 20, ((1, ((1, 1),)), (-1, ()))),)),
                          log_text((("times", 3, ((1, ((1, 1),)), (-1, ()))),))),
                         (200000000000000000000, "3( +1x1 - )"))


if __name__ == "__main__":
    unittest.main()
