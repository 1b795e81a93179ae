"""[5], [6]: points, fractions, and how points and spots lie to one another."""

import unittest
from fractions import Fraction
from itertools import product
from math import gcd

from nearlands.errors import NoNumber
from nearlands.points import ahead, fraction_of, nearer, point_of, square, turn
from tests.helper import (
    big, check_fraction, check_kind, check_point, moved, neighbours, point_at, side_of, sign_of, way_square, where,
)

FIGURES = (100, 101, 250, 500, 999, 1000)

# Points with unlike last numbers, on both sides of 0, several with the same x.
POINTS = [
    point_at(Fraction(x, w), Fraction(y, w))
    for w in (1, 2, 3) for x in (-3, -1, 0, 2) for y in (-2, 0, 1)
]
POINTS = sorted(set(POINTS))

MOVES = ((1, 0, 0), (10 ** 28, -10 ** 29, 3 * 10 ** 29), (big(1) // 10, big(2), -big(3)))


class PointOfTest(unittest.TestCase):
    def test_lowest_terms(self):
        self.assertEqual(point_of(3, 5, 7), (3, 5, 7))
        self.assertEqual(point_of(6, 10, 14), (3, 5, 7))
        self.assertEqual(point_of(4, 6, 1), (4, 6, 1))
        self.assertEqual(point_of(4, 6, 2), (2, 3, 1))
        self.assertEqual(point_of(9, 9, 9), (1, 1, 1))

    def test_a_factor_of_two_of_the_three_stays(self):
        self.assertEqual(point_of(6, 10, 15), (6, 10, 15))
        self.assertEqual(point_of(2, 4, 3), (2, 4, 3))
        self.assertEqual(point_of(2, 3, 4), (2, 3, 4))
        self.assertEqual(point_of(3, 2, 4), (3, 2, 4))

    def test_signs(self):
        self.assertEqual(point_of(6, -10, -14), (-3, 5, 7))
        self.assertEqual(point_of(-6, -10, 14), (-3, -5, 7))
        self.assertEqual(point_of(-6, 10, -14), (3, -5, 7))
        self.assertEqual(point_of(1, 2, -1), (-1, -2, 1))

    def test_noughts(self):
        self.assertEqual(point_of(0, 0, 5), (0, 0, 1))
        self.assertEqual(point_of(0, 0, -5), (0, 0, 1))
        self.assertEqual(point_of(0, 4, 6), (0, 2, 3))
        self.assertEqual(point_of(4, 0, -6), (-2, 0, 3))

    def test_all_small_ones(self):
        numbers = range(-6, 7)
        for x, y, w in product(numbers, numbers, numbers):
            if w != 0:
                told = point_of(x, y, w)
                check_point(self, told)
                self.assertEqual(where(told), (Fraction(x, w), Fraction(y, w)))

    def test_thirty_figures(self):
        for k in range(20):
            x, y, w = big(k), -big(k + 40), big(k + 80)
            shared = gcd(x, y, w)
            lowest = (x // shared, y // shared, w // shared)
            self.assertEqual(point_of(x, y, w), lowest)
            self.assertEqual(point_of(-x, -y, -w), lowest)
        self.assertEqual(point_of(3 * big(1), 5 * big(1), -7 * big(1)), (-3, -5, 7))
        self.assertEqual(point_of(10 ** 29, 0, 10 ** 29), (1, 0, 1))

    def test_neighbours_in_the_row_of_sums(self):
        for figures in FIGURES:
            one, other = neighbours(figures)
            self.assertEqual(len(str(one)), figures)
            self.assertEqual(point_of(one, other, one), (one, other, one))
            self.assertEqual(point_of(one, one, -other), (-one, -one, other))
            self.assertEqual(point_of(0, one, other), (0, one, other))
        one, other = neighbours(500)
        self.assertEqual(point_of(one * one, one * other, -other * one), (-one, -other, other))

    def test_refused(self):
        for x, y in ((0, 0), (1, 2), (-3, 0), (big(1), big(2))):
            with self.assertRaises(NoNumber):
                point_of(x, y, 0)


class FractionOfTest(unittest.TestCase):
    def test_lowest_terms(self):
        self.assertEqual(fraction_of(3, 5), (3, 5))
        self.assertEqual(fraction_of(6, 10), (3, 5))
        self.assertEqual(fraction_of(10, 5), (2, 1))
        self.assertEqual(fraction_of(5, 1), (5, 1))

    def test_signs(self):
        self.assertEqual(fraction_of(-6, 10), (-3, 5))
        self.assertEqual(fraction_of(6, -10), (-3, 5))
        self.assertEqual(fraction_of(-6, -10), (3, 5))
        self.assertEqual(fraction_of(7, -1), (-7, 1))

    def test_nought(self):
        self.assertEqual(fraction_of(0, 1), (0, 1))
        self.assertEqual(fraction_of(0, 9), (0, 1))
        self.assertEqual(fraction_of(0, -9), (0, 1))

    def test_all_small_ones(self):
        for top, bottom in product(range(-30, 31), repeat=2):
            if bottom != 0:
                told = fraction_of(top, bottom)
                check_fraction(self, told)
                self.assertEqual(Fraction(*told), Fraction(top, bottom))

    def test_thirty_figures(self):
        for k in range(20):
            top, bottom = big(k), big(k + 50)
            lowest = Fraction(top, bottom)
            self.assertEqual(fraction_of(-top, bottom), (-lowest.numerator, lowest.denominator))
            self.assertEqual(fraction_of(-top, -bottom), (lowest.numerator, lowest.denominator))
        self.assertEqual(fraction_of(3 * big(1), -7 * big(1)), (-3, 7))

    def test_neighbours_in_the_row_of_sums(self):
        for figures in FIGURES:
            one, other = neighbours(figures)
            self.assertEqual(fraction_of(one, other), (one, other))
            self.assertEqual(fraction_of(other, one), (other, one))
            self.assertEqual(fraction_of(one, -other), (-one, other))
        one, other = neighbours(499)
        self.assertEqual(fraction_of(one * other, -one * one), (-other, one))

    def test_refused(self):
        for top in (0, 1, -1, big(1)):
            with self.assertRaises(NoNumber):
                fraction_of(top, 0)


class AheadTest(unittest.TestCase):
    def test_unlike_x(self):
        self.assertIs(ahead((1, 9, 1), (2, 0, 1)), True)
        self.assertIs(ahead((2, 0, 1), (1, 9, 1)), False)
        self.assertIs(ahead((-2, 5, 1), (-1, -5, 1)), True)

    def test_same_x(self):
        self.assertIs(ahead((1, 2, 1), (1, 3, 1)), True)
        self.assertIs(ahead((1, 3, 1), (1, 2, 1)), False)
        self.assertIs(ahead((1, -3, 1), (1, -2, 1)), True)

    def test_unlike_last_numbers(self):
        self.assertIs(ahead((5, 0, 4), (4, 0, 3)), True)
        self.assertIs(ahead((4, 0, 3), (5, 0, 4)), False)
        self.assertIs(ahead((1, 1, 2), (2, 3, 4)), True)
        self.assertIs(ahead((2, 3, 4), (1, 1, 2)), False)

    def test_alike(self):
        for point in POINTS:
            self.assertIs(ahead(point, point), False)

    def test_all_pairs(self):
        for scale, dx, dy in MOVES:
            points = [moved(point, scale, dx, dy) for point in POINTS]
            for one, other in product(points, repeat=2):
                self.assertIs(ahead(one, other), where(one) < where(other))

    def test_thirty_figures_that_differ_by_one(self):
        number = big(4)
        self.assertIs(ahead((number, 0, number + 1), (number + 1, 0, number + 2)), True)
        self.assertIs(ahead((number + 1, 0, number + 2), (number, 0, number + 1)), False)
        self.assertIs(ahead((number, number, 1), (number, number + 1, 1)), True)


class TurnTest(unittest.TestCase):
    def test_left_right_and_on_the_line(self):
        self.assertEqual(turn((0, 0, 1), (2, 0, 1), (1, 1, 1)), 1)
        self.assertEqual(turn((0, 0, 1), (2, 0, 1), (1, -1, 1)), -1)
        self.assertEqual(turn((0, 0, 1), (2, 0, 1), (1, 0, 1)), 0)
        self.assertEqual(turn((0, 0, 1), (2, 0, 1), (-7, 0, 1)), 0)
        self.assertEqual(turn((0, 0, 1), (1, 1, 2), (2, 2, 3)), 0)
        self.assertEqual(turn((0, 0, 1), (1, 1, 2), (2, 3, 3)), 1)

    def test_two_alike(self):
        one, other = (1, 2, 3), (-4, 5, 1)
        for three in ((one, one, other), (one, other, one), (other, one, one), (one, one, one)):
            self.assertEqual(turn(*three), 0)

    def test_all_of_three(self):
        for scale, dx, dy in MOVES:
            points = [moved(point, scale, dx, dy) for point in POINTS[::2]]
            for one, other, third in product(points, repeat=3):
                told = turn(one, other, third)
                self.assertEqual(told, side_of(one, other, third))
                check_kind(self, (told,))

    def test_thirty_figures_that_differ_by_one(self):
        number = big(5)
        far = (number, number - 1, 1)
        self.assertEqual(turn((0, 0, 1), far, (number - 1, number - 2, 1)), -1)
        self.assertEqual(turn((0, 0, 1), far, (number - 2, number - 2, 1)), 1)
        self.assertEqual(turn((0, 0, 1), far, (number, number - 1, 7)), 0)


SPOTS = [(0, 0), (1, 0), (0, 1), (-2, 3), (3, -1), (-1, -1)]


class SquareTest(unittest.TestCase):
    def test_of_a_spot(self):
        self.assertEqual(square((0, 0, 1), (3, 4)), (25, 1))
        self.assertEqual(square((3, 4, 1), (3, 4)), (0, 1))
        self.assertEqual(square((-1, 2, 1), (1, -2)), (20, 1))

    def test_of_other_points(self):
        self.assertEqual(square((1, 1, 2), (0, 0)), (1, 2))
        self.assertEqual(square((1, 0, 3), (0, 0)), (1, 9))
        self.assertEqual(square((-5, 7, 2), (-2, 3)), (1, 2))
        self.assertEqual(square((3, 4, 5), (0, 0)), (1, 1))

    def test_all(self):
        for scale, dx, dy in MOVES:
            spots = [(x * scale + dx, y * scale + dy) for x, y in SPOTS]
            for point, spot in product(POINTS, spots):
                point = moved(point, scale, dx, dy)
                told = square(point, spot)
                check_fraction(self, told)
                self.assertEqual(Fraction(*told), way_square(point, spot))

    def test_thirty_figures(self):
        self.assertEqual(square((big(1), big(2), 1), (big(3), -big(4))),
                         ((big(1) - big(3)) ** 2 + (big(2) + big(4)) ** 2, 1))


class NearerTest(unittest.TestCase):
    def test_first_second_neither(self):
        self.assertEqual(nearer((0, 0, 1), (1, 0), (0, 2)), -1)
        self.assertEqual(nearer((0, 0, 1), (0, 2), (1, 0)), 1)
        self.assertEqual(nearer((0, 0, 1), (5, 0), (-3, 4)), 0)
        self.assertEqual(nearer((1, 5, 2), (0, 0), (1, 0)), 0)
        self.assertEqual(nearer((1, 0, 3), (0, 0), (1, 0)), -1)

    def test_the_same_spot_twice(self):
        self.assertEqual(nearer((1, 5, 2), (3, 4), (3, 4)), 0)
        self.assertEqual(nearer((1, 5, 2), (big(1), big(2)), (big(1), big(2))), 0)

    def test_all(self):
        for scale, dx, dy in MOVES:
            spots = [(x * scale + dx, y * scale + dy) for x, y in SPOTS]
            for point, one, other in product(POINTS, spots, spots):
                point = moved(point, scale, dx, dy)
                told = nearer(point, one, other)
                self.assertEqual(told, sign_of(way_square(point, one) - way_square(point, other)))
                check_kind(self, (told,))

    def test_thirty_figures_that_differ_by_one(self):
        number = big(6)
        self.assertEqual(nearer((0, 0, 1), (number, 0), (0, number + 1)), -1)
        self.assertEqual(nearer((1, 0, 2), (-number, 0), (number, 0)), 1)
        self.assertEqual(nearer((0, number, 3), (-number, 0), (number, 0)), 0)


class AskedAgainTest(unittest.TestCase):
    """[2]: whoever asks the same is told the same."""

    def test_the_same_is_told(self):
        def answers():
            return (
                point_of(4, 6, -8), fraction_of(4, -8), ahead((1, 1, 2), (1, 2, 2)),
                turn((0, 0, 1), (1, 0, 1), (1, 1, 2)), square((1, 1, 2), (3, 3)), nearer((1, 1, 2), (0, 0), (5, 5)),
            )
        first = answers()
        self.assertEqual(first, ((-2, -3, 4), (-1, 2), True, 1, (25, 2), -1))
        with self.assertRaises(NoNumber):
            point_of(1, 1, 0)
        self.assertEqual(answers(), first)


if __name__ == "__main__":
    unittest.main()
