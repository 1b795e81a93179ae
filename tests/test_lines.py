"""[7]: lines."""

import unittest
from fractions import Fraction
from itertools import product
from math import gcd

from nearlands.errors import NoLine
from nearlands.lines import between, line_of, meet, place
from nearlands.points import nearer
from tests.helper import big, check_kind, check_point, point_at, sign_of, turned, where

POINTS = [point_at(Fraction(x, 3), Fraction(y, 2)) for x in range(-7, 8) for y in range(-5, 6)]


def on(line, point):
    x, y = where(point)
    return line[0] * x + line[1] * y == line[2]


class LineOfTest(unittest.TestCase):
    def check(self, numbers, told):
        line = line_of(*numbers)
        self.assertEqual(line, told)
        self.assertIs(type(line), tuple)
        check_kind(self, line)

    def test_lowest_terms(self):
        self.check((2, 3, 5), (2, 3, 5))
        self.check((4, 6, 10), (2, 3, 5))
        self.check((6, 10, 15), (6, 10, 15))
        self.check((2, 4, 3), (2, 4, 3))
        self.check((0, 4, 6), (0, 2, 3))
        self.check((4, 0, 0), (1, 0, 0))

    def test_the_signs_stay(self):
        self.check((-4, -6, -10), (-2, -3, -5))
        self.check((4, -6, 10), (2, -3, 5))
        self.check((-4, 6, -10), (-2, 3, -5))
        self.check((4, 6, -10), (2, 3, -5))
        self.check((-3, 0, 0), (-1, 0, 0))
        self.check((0, -3, 9), (0, -1, 3))

    def test_all_small_ones(self):
        for a, b, c in product(range(-6, 7), repeat=3):
            if (a, b) != (0, 0):
                shared = gcd(a, b, c)
                self.check((a, b, c), (a // shared, b // shared, c // shared))

    def test_many_figures(self):
        for k in range(10):
            a, b, c = big(k), -big(k + 30), big(k + 60) * big(k + 90) * 10 ** 5
            shared = gcd(a, b, c)
            self.check((a, b, c), (a // shared, b // shared, c // shared))
            self.check((-a, -b, -c), (-a // shared, -b // shared, -c // shared))
        self.check((6 * big(1), -10 * big(1), 4 * big(1)), (3, -5, 2))
        self.check((10 ** 64, 0, -10 ** 64), (1, 0, -1))

    def test_refused(self):
        for c in (0, 1, -1, big(1)):
            with self.assertRaises(NoLine):
                line_of(0, 0, c)


class BetweenTest(unittest.TestCase):
    def test_lowest_terms(self):
        self.assertEqual(between((0, 0), (2, 0)), (1, 0, 1))
        self.assertEqual(between((2, 0), (0, 0)), (-1, 0, -1))
        self.assertEqual(between((0, 0), (1, 0)), (2, 0, 1))
        self.assertEqual(between((0, 0), (0, -4)), (0, -1, 2))
        self.assertEqual(between((1, 1), (3, 5)), (1, 2, 8))
        self.assertEqual(between((-1, 2), (1, -2)), (1, -2, 0))

    def test_behind_it_is_what_is_nearer_to_the_first(self):
        spots = list(product(range(-2, 3), repeat=2))
        for one, other in product(spots, spots[::3]):
            if one != other:
                line = between(one, other)
                check_kind(self, line)
                self.assertEqual(gcd(*line), 1)
                self.assertEqual(between(other, one), turned(line))
                for point in POINTS[::4]:
                    self.assertEqual(place(line, point), nearer(point, one, other))

    def test_thirty_figures(self):
        for k in range(10):
            one, other = (big(k), -big(k + 20)), (-big(k + 40), big(k + 60))
            line = between(one, other)
            self.assertEqual(gcd(*line), 1)
            self.assertEqual(between(other, one), turned(line))
            self.assertEqual(place(line, (*one, 1)), -1)
            self.assertEqual(place(line, (*other, 1)), 1)
            half = point_at(Fraction(one[0] + other[0], 2), Fraction(one[1] + other[1], 2))
            self.assertEqual(place(line, half), 0)
        self.assertEqual(between((big(1), big(2)), (big(1) + 1, big(2))), (2, 0, 2 * big(1) + 1))

    def test_refused(self):
        for spot in ((0, 0), (3, -4), (big(1), big(2))):
            with self.assertRaises(NoLine):
                between(spot, (spot[0], spot[1]))


class PlaceTest(unittest.TestCase):
    def test_behind_on_before(self):
        self.assertEqual(place((1, 0, 2), (1, 9, 1)), -1)
        self.assertEqual(place((1, 0, 2), (2, 9, 1)), 0)
        self.assertEqual(place((1, 0, 2), (3, 9, 1)), 1)
        self.assertEqual(place((-1, 0, -2), (3, 9, 1)), -1)
        self.assertEqual(place((2, 4, 3), (1, 1, 2)), 0)
        self.assertEqual(place((2, 4, 3), (1, 2, 3)), 1)

    def test_all(self):
        for line in ((1, 0, 0), (0, -1, 1), (2, 3, 1), (-3, 2, 2), (6, 6, 5)):
            for point in POINTS:
                x, y = where(point)
                told = place(line, point)
                self.assertEqual(told, sign_of(line[0] * x + line[1] * y - line[2]))
                self.assertEqual(place(turned(line), point), -told)
                check_kind(self, (told,))

    def test_thirty_figures_that_differ_by_one(self):
        number = big(7)
        line = (number, -number - 1, 0)
        self.assertEqual(place(line, (number + 1, number, 1)), 0)
        self.assertEqual(place(line, (number, number - 1, 1)), 1)
        self.assertEqual(place(line, (number - 1, number - 1, 1)), -1)
        self.assertEqual(place(line, (number + 1, number, number)), 0)


class MeetTest(unittest.TestCase):
    def test_lines_that_meet(self):
        self.assertEqual(meet((1, 0, 2), (0, 1, 3)), (2, 3, 1))
        self.assertEqual(meet((2, 0, 1), (0, 3, -1)), (3, -2, 6))
        self.assertEqual(meet((1, 1, 0), (1, -1, 0)), (0, 0, 1))
        self.assertEqual(meet((1, 1, 1), (1, -1, 0)), (1, 1, 2))

    def test_lines_side_by_side(self):
        self.assertIsNone(meet((1, 2, 3), (1, 2, 4)))
        self.assertIsNone(meet((1, 2, 3), (-1, -2, 4)))
        self.assertIsNone(meet((2, 4, 3), (1, 2, 1)))
        self.assertIsNone(meet((1, 0, 0), (1, 0, 5)))

    def test_the_same_line(self):
        self.assertIsNone(meet((1, 2, 3), (1, 2, 3)))
        self.assertIsNone(meet((1, 2, 3), (-1, -2, -3)))
        self.assertIsNone(meet((0, 1, 0), (0, -1, 0)))

    def test_all_small_ones(self):
        numbers = range(-2, 3)
        lines = [line for line in product(numbers, repeat=3) if line[:2] != (0, 0) and gcd(*line) == 1]
        for one, other in product(lines, lines[::3]):
            told = meet(one, other)
            self.assertEqual(meet(other, one), told)
            self.assertEqual(meet(turned(one), other), told)
            if one[0] * other[1] == one[1] * other[0]:
                self.assertIsNone(told)
            else:
                check_point(self, told)
                self.assertTrue(on(one, told) and on(other, told))

    def test_thirty_figures(self):
        for k in range(10):
            one, other = line_of(big(k), big(k + 20), -big(k + 40)), line_of(big(k + 60), -big(k + 80), big(k + 100))
            told = meet(one, other)
            check_point(self, told)
            self.assertTrue(on(one, told) and on(other, told))
            self.assertEqual(meet(other, one), told)
            self.assertIsNone(meet(one, (one[0], one[1], one[2] + 1)))
            self.assertIsNone(meet(one, turned(one)))
        number = big(8)
        self.assertEqual(meet((number, number + 1, 0), (number - 1, number, 1)), (-number - 1, number, 1))


if __name__ == "__main__":
    unittest.main()
