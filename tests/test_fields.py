"""[8], [9], [10]: fields, what is left of them behind a line, their areas, and the field of a box."""

import unittest
from fractions import Fraction
from itertools import product

from nearlands.errors import NoBox
from nearlands.fields import area, box_field, cut
from nearlands.lines import line_of, place
from tests.helper import (
    big, check_field, check_fraction, check_kind, copied, has_point, middle, moved, point_at, sides, small, turned,
    twice_area,
)

BOX = (0, 0, 4, 4)
BOXED = ([(0, 0, 1), (4, 0, 1), (4, 4, 1), (0, 4, 1)], [-1, -2, -3, -4])
THREE = ([(0, 0, 1), (3, 0, 2), (0, 3, 1)], [-1, 4, -4])
SIX = ([(0, 2, 1), (1, 0, 1), (3, 0, 1), (4, 2, 1), (3, 4, 1), (1, 4, 1)], [10, 11, 12, 13, 14, 15])
# Its corners have unlike last numbers, and two lie at the least x.
ODD = ([(-1, -1, 2), (1, -2, 3), (5, 1, 4), (2, 7, 3), (-1, 4, 2)], [7, 7, -3, 2, 0])
FIELDS = (BOXED, THREE, SIX, ODD)


def moved_field(field, scale, dx, dy):
    return ([moved(corner, scale, dx, dy) for corner in field[0]], list(field[1]))


def moved_line(line, scale, dx, dy):
    a, b, c = line
    return line_of(a, b, c * scale + a * dx + b * dy)


class CutTest(unittest.TestCase):
    def check_cut(self, field, line, number):
        """Fail unless cut tells just what [9] says, looked at by another way than its own."""
        told = cut(field, line, number)
        places = [place(line, corner) for corner in field[0]]
        if max(places) <= 0:
            self.assertEqual(told, field)
        elif min(places) >= 0:
            self.assertIsNone(told)
        else:
            check_field(self, told)
            self.check_points(field, line, told)
            self.check_edges(field, line, number, told)
            # The two parts come to the whole.
            other = cut(field, turned(line), number)
            self.assertEqual(Fraction(*area(told)) + Fraction(*area(other)), Fraction(*area(field)))
            self.assertEqual(twice_area(told) + twice_area(other), twice_area(field))
        return told

    def check_points(self, field, line, told):
        corners = field[0] + told[0]
        points = corners + [middle(one, other) for one, other in product(corners, repeat=2)]
        for point in points:
            expected = has_point(field, point) and place(line, point) <= 0
            self.assertEqual(has_point(told, point), expected, point)

    def check_edges(self, field, line, number, told):
        along = 0
        for start, end, called in sides(told):
            if place(line, start) == place(line, end) == 0:
                along += 1
                self.assertEqual(called, number)
            else:
                half = middle(start, end)
                (whole,) = [row for row in sides(field) if place(through(*row[:2]), half) == 0]
                self.assertEqual(called, whole[2])
        self.assertEqual(along, 1)

    def test_leaves_nothing(self):
        for line in ((1, 0, -1), (-1, 0, -5), (0, 1, -100), (1, 1, -1), (1, 0, -10 ** 65)):
            self.assertIsNone(cut(BOXED, line, 7))

    def test_leaves_all(self):
        for line in ((1, 0, 5), (-1, 0, 1), (0, -1, 100), (1, 1, 9), (1, 0, 10 ** 65)):
            self.assertEqual(cut(BOXED, line, 7), BOXED)

    def test_through_the_inside(self):
        self.assertEqual(cut(BOXED, (1, 0, 1), 7), ([(0, 0, 1), (1, 0, 1), (1, 4, 1), (0, 4, 1)], [-1, 7, -3, -4]))
        self.assertEqual(cut(BOXED, (-1, 0, -1), 7), ([(1, 0, 1), (4, 0, 1), (4, 4, 1), (1, 4, 1)], [-1, -2, -3, 7]))
        self.assertEqual(cut(BOXED, (0, -3, -4), 0), ([(0, 4, 3), (12, 4, 3), (4, 4, 1), (0, 4, 1)], [0, -2, -3, -4]))
        self.assertEqual(cut(BOXED, (2, 2, 3), 5), ([(0, 0, 1), (3, 0, 2), (0, 3, 2)], [-1, 5, -4]))
        self.assertEqual(cut(BOXED, (-2, -2, -3), 5),
                         ([(0, 3, 2), (3, 0, 2), (4, 0, 1), (4, 4, 1), (0, 4, 1)], [5, -1, -2, -3, -4]))

    def test_through_one_corner(self):
        self.assertEqual(cut(BOXED, (2, -1, 0), 9), ([(0, 0, 1), (2, 4, 1), (0, 4, 1)], [9, -3, -4]))
        self.assertEqual(cut(BOXED, (-2, 1, 0), 9), ([(0, 0, 1), (4, 0, 1), (4, 4, 1), (2, 4, 1)], [-1, -2, -3, 9]))
        self.assertEqual(cut(BOXED, (1, 1, 0), 9), None)
        self.assertEqual(cut(BOXED, (-1, -1, 0), 9), BOXED)

    def test_through_two_corners(self):
        self.assertEqual(cut(BOXED, (1, -1, 0), 9), ([(0, 0, 1), (4, 4, 1), (0, 4, 1)], [9, -3, -4]))
        self.assertEqual(cut(BOXED, (-1, 1, 0), 9), ([(0, 0, 1), (4, 0, 1), (4, 4, 1)], [-1, -2, 9]))
        self.assertEqual(cut(BOXED, (1, 1, 4), 9), ([(0, 0, 1), (4, 0, 1), (0, 4, 1)], [-1, 9, -4]))
        self.assertEqual(cut(BOXED, (-1, -1, -4), 9), ([(0, 4, 1), (4, 0, 1), (4, 4, 1)], [9, -2, -3]))

    def test_along_an_edge(self):
        for line in ((-1, 0, 0), (0, -1, 0), (1, 0, 4), (0, 1, 4)):
            self.assertEqual(cut(BOXED, line, 9), BOXED)
            self.assertIsNone(cut(BOXED, turned(line), 9))

    def test_of_fields_already_cut(self):
        field = cut(cut(BOXED, (2, 2, 11), 5), (-1, 1, 2), 6)
        self.assertEqual(field, ([(0, 0, 1), (4, 0, 1), (8, 3, 2), (7, 15, 4), (0, 2, 1)], [-1, -2, 5, 6, -4]))
        self.check_cut(field, (0, 1, 1), 8)
        self.assertEqual(cut(field, (0, -1, -2), 8), ([(0, 2, 1), (7, 4, 2), (7, 15, 4)], [8, 5, 6]))
        # What comes in place of an edge may be called as another one is.
        self.assertEqual(cut(field, (0, -1, -2), 5), ([(0, 2, 1), (7, 4, 2), (7, 15, 4)], [5, 5, 6]))

    def test_many_lines_and_fields(self):
        told = []
        for field in FIELDS:
            for k in range(60):
                line = line_of(small(k, -4, 4), 2 * small(k + 100, -3, 3) + 1, small(k + 200, -14, 14))
                told.append(self.check_cut(field, line, k))
            for one, other in product(field[0], repeat=2):
                if one != other:
                    self.check_cut(field, through(one, other), 99)
                    self.check_cut(field, turned(through(one, other)), 99)
                    half = middle(one, other)
                    for corner in field[0]:
                        if corner not in (one, other) and half != corner:
                            self.check_cut(field, through(corner, half), 98)
        self.assertIn(None, told)

    def test_many_cuts_of_one_field(self):
        for field in FIELDS:
            left = copied(field)
            for k in range(200):
                line = line_of(small(k, -9, 9), 2 * small(k + 300, -9, 9) + 1, small(k + 600, -30, 30))
                following = cut(left, line, k)
                if following is not None and twice_area(following) > twice_area(field) / 40:
                    self.check_cut(left, line, k)
                    left = following
            self.assertNotEqual(left, field)

    def test_thirty_figures(self):
        for field in FIELDS:
            for k in range(20):
                scale, dx, dy = big(k) // 100, big(k + 20) // 10, -big(k + 40) // 10
                line = line_of(small(k, -4, 4), 2 * small(k + 100, -3, 3) + 1, small(k + 200, -6, 6))
                told = cut(moved_field(field, scale, dx, dy), moved_line(line, scale, dx, dy), big(k))
                expected = cut(field, line, big(k))
                if expected is not None:
                    expected = moved_field(expected, scale, dx, dy)
                self.assertEqual(told, expected)

    def test_sixty_five_figures(self):
        scale, dx, dy = big(1) * big(2), -big(3) * big(4) * 1000, big(5) * big(6) * 1000
        field = moved_field(ODD, scale, dx, dy)
        line = moved_line((1, 1, 2), scale, dx, dy)
        self.assertEqual(cut(field, line, 6), moved_field(cut(ODD, (1, 1, 2), 6), scale, dx, dy))
        self.assertIsNone(cut(field, moved_line((1, 0, -1), scale, dx, dy), 6))

    def test_thirty_figures_of_no_small_scale(self):
        ends = ((-big(1), 0), (0, -Fraction(big(2), 7)), (Fraction(big(3), 11), 0), (0, Fraction(big(4), 13)))
        field = ([point_at(x, y) for x, y in ends], [1, 2, 3, 4])
        check_field(self, field)
        told = []
        for k in range(20):
            line = line_of(big(k) * (-1) ** k, big(k + 20), big(k + 40) * big(k + 60) * (k % 3 - 1) // 20)
            told.append(self.check_cut(field, line, -big(k)))
        self.assertGreater(len([one for one in told if one not in (None, field)]), 10)

    def test_what_is_told_is_the_askers_own(self):
        for line in ((1, 0, 9), (1, 0, 4), (1, 0, 1)):
            field = copied(BOXED)
            told = cut(field, line, 7)
            expected = copied(told)
            self.assertEqual(field, BOXED)
            self.assertIsNot(told[0], field[0])
            self.assertIsNot(told[1], field[1])
            told[0].append("more")
            told[1].clear()
            self.assertEqual(field, BOXED)
            self.assertEqual(cut(field, line, 7), expected)

    def test_nothing_handed_in_is_changed(self):
        for field in FIELDS:
            for line in ((1, 0, 1), (2, 3, 4), (-1, 1, 0), (1, 0, -9), (0, 1, 99)):
                handed = copied(field)
                cut(handed, line, 7)
                area(handed)
                self.assertEqual(handed, field)


def through(one, other):
    """Tell a line through two points."""
    a = one[1] * other[2] - other[1] * one[2]
    b = other[0] * one[2] - one[0] * other[2]
    c = other[0] * one[1] - one[0] * other[1]
    line = line_of(a, b, c)
    assert place(line, one) == place(line, other) == 0
    return line


class AreaTest(unittest.TestCase):
    def test_small_ones(self):
        self.assertEqual(area(BOXED), (16, 1))
        self.assertEqual(area(THREE), (9, 4))
        self.assertEqual(area(SIX), (12, 1))
        self.assertEqual(area(([(0, 0, 1), (1, 0, 1), (0, 1, 1)], [1, 2, 3])), (1, 2))
        self.assertEqual(area(([(-1, -1, 1), (-1, -1, 2), (-1, 0, 1)], [1, 2, 3])), (1, 4))

    def test_lowest_terms(self):
        for field in FIELDS:
            for scale, dx, dy in ((1, 0, 0), (6, -7, 5), (Fraction(2, 3), Fraction(1, 7), 0), (big(1), big(2), -9)):
                told = area(moved_field(field, scale, dx, dy))
                check_fraction(self, told)
                self.assertEqual(Fraction(*told), twice_area(field) / 2 * scale ** 2)

    def test_it_does_not_hang_on_what_edges_are_called(self):
        self.assertEqual(area((BOXED[0], [big(1), 5, 5, 0])), (16, 1))


class BoxFieldTest(unittest.TestCase):
    def test_corners_and_edges(self):
        self.assertEqual(box_field(BOX), BOXED)
        self.assertEqual(box_field((-3, 2, -1, 7)),
                         ([(-3, 2, 1), (-1, 2, 1), (-1, 7, 1), (-3, 7, 1)], [-1, -2, -3, -4]))
        for box in (BOX, (-3, 2, -1, 7), (0, 0, 1, 1), (-big(1), -big(2), big(3), big(4))):
            told = box_field(box)
            check_field(self, told)
            x, y, u, v = box
            self.assertEqual(told[0], [(x, y, 1), (u, y, 1), (u, v, 1), (x, v, 1)])
            self.assertEqual(told[1], [-1, -2, -3, -4])
            self.assertEqual(area(told), ((u - x) * (v - y), 1))
            check_kind(self, area(told))

    def test_no_box(self):
        wrong = [(0, 0, 0, 1), (0, 0, 1, 0), (0, 0, 0, 0), (1, 0, 0, 1), (0, 1, 1, 0), (1, 1, 0, 0), (-1, -1, -2, -2)]
        wrong += [(big(1), 0, big(1), 1), (0, big(1), 1, big(1) - 1), (big(1), big(1), -big(1), big(2))]
        for box in wrong:
            with self.assertRaises(NoBox):
                box_field(box)

    def test_what_is_told_is_the_askers_own(self):
        told = box_field(BOX)
        told[0].clear()
        told[1].append(5)
        self.assertEqual(box_field(BOX), BOXED)


class HelperTest(unittest.TestCase):
    """The fields that the tests begin with are fields."""

    def test_fields(self):
        for field in FIELDS:
            check_field(self, field)
        self.assertEqual(point_at(Fraction(1, 2), Fraction(2, 3)), (3, 4, 6))


if __name__ == "__main__":
    unittest.main()
