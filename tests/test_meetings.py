"""[12], [13], [2]: where lands meet, where the box is emptiest, and whose land has a point."""

import unittest
from fractions import Fraction
from itertools import combinations

from nearlands.lands import lands
from nearlands.meetings import emptiest, holders, meetings
from tests.helper import (
    CASES, RING, big, centre_of, check_fraction, check_kind, check_point, has_point, in_order, middle, moved,
    moved_case, nearest_spots, point_at, small_cases, some_points, way_square, where,
)


def in_box(box, point):
    x, y = where(point)
    return box[0] <= x <= box[2] and box[1] <= y <= box[3]


def on_sides(box, one, other):
    """Tell the points on the sides of a box that are as near to both spots."""
    (a, b), (c, d) = one, other
    half = Fraction(c * c + d * d - a * a - b * b, 2)
    points = []
    if d != b:
        points += [point_at(x, (half - (c - a) * x) / (d - b)) for x in (box[0], box[2])]
    if c != a:
        points += [point_at((half - (d - b) * y) / (c - a), y) for y in (box[1], box[3])]
    return [point for point in points if in_box(box, point)]


def expected_meetings(box, spots):
    """Tell the meetings by another way: corners of the box, points of its sides with two nearest, and of it with three.

    At these, and at no others, two lines that aren't side by side bound a land.
    """
    points = [(x, y, 1) for x in (box[0], box[2]) for y in (box[1], box[3])]
    for one, other in combinations(range(len(spots)), 2):
        for point in on_sides(box, spots[one], spots[other]):
            if {one, other} <= set(nearest_spots(spots, point)):
                points.append(point)
    for three in combinations(range(len(spots)), 3):
        point = centre_of(*[spots[number] for number in three])
        if point is not None and in_box(box, point) and set(three) <= set(nearest_spots(spots, point)):
            points.append(point)
    told = []
    for point in in_order(points):
        near = nearest_spots(spots, point)
        way = way_square(point, spots[near[0]])
        told.append((point, (way.numerator, way.denominator), near))
    return told


class MeetingsTest(unittest.TestCase):
    def check_kinds(self, told):
        self.assertIs(type(told), list)
        for row in told:
            self.assertIs(type(row), tuple)
            point, way, near = row
            check_point(self, point)
            check_fraction(self, way)
            self.assertIs(type(near), list)
            check_kind(self, near)

    def test_all_cases(self):
        for name, (box, spots) in CASES.items():
            with self.subTest(name):
                told = meetings(box, spots)
                self.check_kinds(told)
                self.assertEqual(told, expected_meetings(box, spots))

    def test_many_with_small_numbers(self):
        for box, spots in small_cases(60):
            self.assertEqual(meetings(box, spots), expected_meetings(box, spots))

    def test_just_the_corners_of_lands(self):
        for box, spots in CASES.values():
            corners = [corner for field in lands(box, spots) for corner in field[0]]
            self.assertEqual([row[0] for row in meetings(box, spots)], in_order(corners))

    def test_one(self):
        self.assertEqual(meetings((0, 0, 4, 3), [(1, 1)]), [
            ((0, 0, 1), (2, 1), [0]), ((0, 3, 1), (5, 1), [0]), ((4, 0, 1), (10, 1), [0]), ((4, 3, 1), (13, 1), [0]),
        ])

    def test_two(self):
        self.assertEqual(meetings((0, 0, 4, 3), [(3, 1), (1, 1)]), [
            ((0, 0, 1), (2, 1), [1]), ((0, 3, 1), (5, 1), [1]),
            ((2, 0, 1), (2, 1), [0, 1]), ((2, 3, 1), (5, 1), [0, 1]),
            ((4, 0, 1), (2, 1), [0]), ((4, 3, 1), (5, 1), [0]),
        ])

    def test_the_square_is_in_lowest_terms(self):
        self.assertEqual(meetings((0, 0, 4, 4), [(0, 0), (4, 0), (2, 4)]), [
            ((0, 0, 1), (0, 1), [0]), ((0, 5, 2), (25, 4), [0, 2]), ((0, 4, 1), (4, 1), [2]),
            ((2, 0, 1), (4, 1), [0, 1]), ((4, 3, 2), (25, 4), [0, 1, 2]),
            ((4, 0, 1), (0, 1), [1]), ((8, 5, 2), (25, 4), [1, 2]), ((4, 4, 1), (4, 1), [2]),
        ])

    def test_four_and_more_as_near(self):
        self.assertIn(((2, 2, 1), (2, 1), [0, 1, 2, 3]), meetings((0, 0, 4, 4), [(1, 1), (3, 3), (3, 1), (1, 3)]))
        self.assertIn(((0, 0, 1), (25, 1), list(range(12))), meetings((-6, -7, 8, 9), RING))
        self.assertNotIn((0, 0, 1), [row[0] for row in meetings((-6, -7, 8, 9), RING[:11] + [(0, 0)])])

    def test_as_near_at_a_side_of_the_box(self):
        # Three spots are as near to a point on the lower side, and two to a corner of the box.
        spots = [(3, 4), (0, 5), (-3, 4)]
        self.assertIn(((0, 0, 1), (25, 1), [0, 1, 2]), meetings((-6, 0, 6, 6), spots))
        self.assertIn(((0, 0, 1), (1, 1), [0, 1]), meetings((0, 0, 2, 2), [(1, 0), (0, 1)]))

    def test_thirty_figures(self):
        for name, (box, spots) in CASES.items():
            if name != "thirty figures":
                scale, dx, dy = big(11) // 10 ** 4, big(12) // 10, -big(13) // 10
                told = meetings(*moved_case(box, spots, scale, dx, dy))
                self.check_kinds(told)
                expected = meetings(box, spots)
                self.assertEqual([row[0] for row in told], [moved(row[0], scale, dx, dy) for row in expected])
                self.assertEqual([row[2] for row in told], [row[2] for row in expected])
                for row, small_row in zip(told, expected):
                    self.assertEqual(Fraction(*row[1]), Fraction(*small_row[1]) * scale ** 2)


class EmptiestTest(unittest.TestCase):
    def test_one_point_at_a_corner_of_the_box(self):
        self.assertEqual(emptiest((0, 0, 4, 3), [(1, 1)]), ((13, 1), [(4, 3, 1)]))

    def test_several_points_at_corners_and_sides(self):
        self.assertEqual(emptiest((0, 0, 4, 4), [(2, 2)]),
                         ((8, 1), [(0, 0, 1), (0, 4, 1), (4, 0, 1), (4, 4, 1)]))
        self.assertEqual(emptiest((0, 0, 4, 3), [(3, 1), (1, 1)]),
                         ((5, 1), [(0, 3, 1), (2, 3, 1), (4, 3, 1)]))
        self.assertEqual(emptiest((0, 0, 4, 4), [(0, 0), (4, 0), (2, 4)]),
                         ((25, 4), [(0, 5, 2), (4, 3, 2), (8, 5, 2)]))

    def test_amid_the_box(self):
        self.assertEqual(emptiest((-5, -5, 5, 5), RING), ((25, 1), [(0, 0, 1)]))
        self.assertEqual(emptiest((0, 0, 5, 3), [(0, 0), (5, 3), (0, 3), (5, 0)]), ((17, 2), [(5, 3, 2)]))
        self.assertEqual(emptiest((0, 0, 4, 2), [(x, y) for x in (0, 2, 4) for y in (2, 0)]),
                         ((2, 1), [(1, 1, 1), (3, 1, 1)]))

    def check_emptiest(self, box, spots):
        told = emptiest(box, spots)
        self.assertIs(type(told), tuple)
        greatest, points = told
        check_fraction(self, greatest)
        self.assertIs(type(points), list)
        rows = expected_meetings(box, spots)
        way = max(Fraction(*row[1]) for row in rows)
        self.assertEqual(Fraction(*greatest), way)
        self.assertEqual(points, [row[0] for row in rows if Fraction(*row[1]) == way])
        # No other point of the box is as far from all spots.
        for point in some_points(box, lands(box, spots)):
            nearest = min(way_square(point, spot) for spot in spots)
            self.assertEqual(nearest == way, point in points)
            self.assertLessEqual(nearest, way)

    def test_all_cases(self):
        for name, (box, spots) in CASES.items():
            with self.subTest(name):
                self.check_emptiest(box, spots)

    def test_many_with_small_numbers(self):
        for box, spots in small_cases(40):
            self.check_emptiest(box, spots)


class HoldersTest(unittest.TestCase):
    BOX = (0, 0, 4, 4)
    SPOTS = [(0, 0), (4, 0), (2, 4)]

    def test_within_one_land(self):
        self.assertEqual(holders(self.BOX, self.SPOTS, (1, 1, 1)), [0])
        self.assertEqual(holders(self.BOX, self.SPOTS, (7, 1, 2)), [1])
        self.assertEqual(holders(self.BOX, self.SPOTS, (2, 4, 1)), [2])

    def test_on_an_edge_and_at_a_corner(self):
        self.assertEqual(holders(self.BOX, self.SPOTS, (2, 1, 1)), [0, 1])
        self.assertEqual(holders(self.BOX, self.SPOTS, (1, 2, 1)), [0, 2])
        self.assertEqual(holders(self.BOX, self.SPOTS, (4, 3, 2)), [0, 1, 2])
        self.assertEqual(holders(self.BOX, [(1, 1), (3, 3), (3, 1), (1, 3)], (2, 2, 1)), [0, 1, 2, 3])

    def test_on_a_side_of_the_box(self):
        self.assertEqual(holders(self.BOX, self.SPOTS, (0, 5, 2)), [0, 2])
        self.assertEqual(holders(self.BOX, self.SPOTS, (8, 5, 2)), [1, 2])
        self.assertEqual(holders(self.BOX, self.SPOTS, (2, 0, 1)), [0, 1])
        self.assertEqual(holders(self.BOX, self.SPOTS, (1, 4, 1)), [2])
        self.assertEqual(holders(self.BOX, self.SPOTS, (4, 4, 1)), [2])

    def test_beyond_the_box(self):
        far = 10 ** 64
        for point in ((-1, 2, 1), (5, 2, 1), (2, -1, 1), (2, 5, 1), (-1, 10 ** 9, 10 ** 9), (2, 4 * far + 1, far),
                      (2 * far, -1, far), (4 * far + 1, 1, far), (-9, -9, 1), (9, 9, 2)):
            self.assertEqual(holders(self.BOX, self.SPOTS, point), [])

    def test_just_those_whose_land_has_the_point(self):
        for box, spots in list(CASES.values()) + list(small_cases(30)):
            told = lands(box, spots)
            points = some_points(box, told)
            # Some lie beyond the box.
            points += [moved(point, 2, -box[0], -box[1]) for point in points[::5]]
            for point in points:
                expected = nearest_spots(spots, point) if in_box(box, point) else []
                self.assertEqual(holders(box, spots, point), expected)
                self.assertEqual([number for number, field in enumerate(told) if has_point(field, point)], expected)

    def test_thirty_figures(self):
        box, spots = CASES["thirty figures"]
        for number, spot in enumerate(spots):
            self.assertEqual(holders(box, spots, (spot[0], spot[1], 1)), [number])
        for row in meetings(box, spots):
            self.assertEqual(holders(box, spots, row[0]), row[2])
        self.assertEqual(holders(box, spots, middle((box[2], 0, 1), (box[2] + 1, 0, 1))), [])


class OwnTest(unittest.TestCase):
    """[2]: nothing that is handed in is changed, and what is told is the asker's own."""

    def test_nothing_handed_in_is_changed(self):
        for box, spots in CASES.values():
            handed = list(spots)
            meetings(box, handed)
            emptiest(box, handed)
            holders(box, handed, (1, 1, 1))
            self.assertEqual(handed, spots)

    def test_told_lists_that_are_changed_change_no_later_answer(self):
        for box, spots in CASES.values():
            told = meetings(box, spots)
            empty = emptiest(box, spots)
            held = holders(box, spots, (1, 1, 1))
            kept = [(point, way, list(near)) for point, way, near in told], (empty[0], list(empty[1])), list(held)
            for row in told:
                row[2].append(99)
            told.clear()
            empty[1].clear()
            held.append(5)
            self.assertEqual((meetings(box, spots), emptiest(box, spots), holders(box, spots, (1, 1, 1))), kept)

    def test_no_two_rows_share_a_list(self):
        near = [row[2] for row in meetings(*CASES["grid"])]
        self.assertEqual(len({id(one) for one in near}), len(near))


if __name__ == "__main__":
    unittest.main()
