"""[11], [4], [2]: the lands of spots in a box."""

import unittest
from fractions import Fraction

from nearlands.fields import area
from nearlands.lands import land_of, lands
from tests.helper import (
    CASES, big, check_field, copied, has_point, middle, moved, moved_case, nearest_spots, sides, small_cases,
    some_points, way_square, where,
)

SIDE_PLACES = {-1: (1, 1), -2: (0, 2), -3: (1, 3), -4: (0, 0)}


class LandsTest(unittest.TestCase):
    def check_edge(self, box, spots, number, edge):
        start, end, called = edge
        if called < 0:
            axis, at = SIDE_PLACES[called]
            self.assertEqual((where(start)[axis], where(end)[axis]), (box[at], box[at]))
        else:
            self.assertNotEqual(called, number)
            for point in (start, end, middle(start, end)):
                self.assertEqual(way_square(point, spots[called]), way_square(point, spots[number]))

    def check_lands(self, box, spots, told):
        self.assertIs(type(told), list)
        self.assertEqual(len(told), len(spots))
        for number, field in enumerate(told):
            check_field(self, field)
            self.assertEqual(land_of(box, spots, number), field)
            for corner in field[0]:
                self.assertIn(number, nearest_spots(spots, corner))
            for edge in sides(field):
                self.check_edge(box, spots, number, edge)
        for point in some_points(box, told):
            holders = [number for number, field in enumerate(told) if has_point(field, point)]
            self.assertEqual(holders, nearest_spots(spots, point), point)
        x, y, u, v = box
        self.assertEqual(sum(Fraction(*area(field)) for field in told), (u - x) * (v - y))

    def test_all_cases(self):
        for name, (box, spots) in CASES.items():
            with self.subTest(name):
                self.check_lands(box, spots, lands(box, spots))

    def test_many_with_small_numbers(self):
        for box, spots in small_cases(60):
            self.check_lands(box, spots, lands(box, spots))

    def test_scaled_and_moved_to_thirty_figures(self):
        for name, (box, spots) in CASES.items():
            if name != "thirty figures":
                with self.subTest(name):
                    scale, dx, dy = big(11) // 10 ** 4, big(12) // 10, -big(13) // 10
                    expected = [
                        ([moved(corner, scale, dx, dy) for corner in corners], edges)
                        for corners, edges in lands(box, spots)
                    ]
                    self.assertEqual(lands(*moved_case(box, spots, scale, dx, dy)), expected)

    def test_one(self):
        self.assertEqual(lands((0, 0, 4, 3), [(1, 1)]),
                         [([(0, 0, 1), (4, 0, 1), (4, 3, 1), (0, 3, 1)], [-1, -2, -3, -4])])

    def test_two(self):
        self.assertEqual(lands((0, 0, 4, 2), [(1, 1), (3, 1)]), [
            ([(0, 0, 1), (2, 0, 1), (2, 2, 1), (0, 2, 1)], [-1, 1, -3, -4]),
            ([(2, 0, 1), (4, 0, 1), (4, 2, 1), (2, 2, 1)], [-1, -2, -3, 0]),
        ])

    def test_three(self):
        self.assertEqual(lands((0, 0, 4, 4), [(0, 0), (4, 0), (2, 4)]), [
            ([(0, 0, 1), (2, 0, 1), (4, 3, 2), (0, 5, 2)], [-1, 1, 2, -4]),
            ([(2, 0, 1), (4, 0, 1), (8, 5, 2), (4, 3, 2)], [-1, -2, 2, 0]),
            ([(0, 5, 2), (4, 3, 2), (8, 5, 2), (4, 4, 1), (0, 4, 1)], [0, 1, -2, -3, -4]),
        ])

    def test_ring_with_its_middle(self):
        spots = [(0, 0), (2, 0), (0, 2), (-2, 0), (0, -2)]
        self.assertEqual(land_of((-3, -3, 3, 3), spots, 0),
                         ([(-1, -1, 1), (1, -1, 1), (1, 1, 1), (-1, 1, 1)], [4, 1, 2, 3]))
        self.assertEqual(land_of((-3, -3, 3, 3), spots, 1),
                         ([(1, -1, 1), (3, -3, 1), (3, 3, 1), (1, 1, 1)], [4, -2, 2, 0]))

    def test_lands_that_meet_in_one_point(self):
        # The spot across the point is as near to it, but no edge is called by that spot.
        self.assertEqual(land_of((0, 0, 4, 4), [(1, 1), (3, 3), (3, 1), (1, 3)], 0),
                         ([(0, 0, 1), (2, 0, 1), (2, 2, 1), (0, 2, 1)], [-1, 2, 3, -4]))

    def test_a_line_between_that_goes_through_a_corner_of_the_box(self):
        self.assertEqual(lands((0, 0, 2, 2), [(1, 0), (0, 1)]), [
            ([(0, 0, 1), (2, 0, 1), (2, 2, 1)], [-1, -2, 1]),
            ([(0, 0, 1), (2, 2, 1), (0, 2, 1)], [0, -3, -4]),
        ])


class OwnTest(unittest.TestCase):
    """[2]: nothing that is handed in is changed, and what is told is the asker's own."""

    def test_nothing_handed_in_is_changed(self):
        for box, spots in CASES.values():
            handed = list(spots)
            lands(box, handed)
            land_of(box, handed, 0)
            self.assertEqual(handed, spots)

    def test_told_lists_that_are_changed_change_no_later_answer(self):
        for box, spots in CASES.values():
            told = lands(box, spots)
            kept = [copied(field) for field in told]
            for field in told:
                field[0].reverse()
                field[1].append(77)
            told.clear()
            one = land_of(box, spots, 0)
            one[0].clear()
            one[1][0] = 55
            self.assertEqual(lands(box, spots), kept)
            self.assertEqual(land_of(box, spots, 0), kept[0])

    def test_no_two_answers_share_a_list(self):
        told = lands(*CASES["grid"]) + lands(*CASES["grid"])
        lists = [part for field in told for part in field]
        self.assertEqual(len({id(part) for part in lists}), len(lists))

    def test_later_changes_of_what_was_handed_in_change_no_answer(self):
        box, spots = CASES["grid"]
        handed = list(spots)
        told = lands(box, handed)
        kept = [copied(field) for field in told]
        handed.clear()
        self.assertEqual(told, kept)


if __name__ == "__main__":
    unittest.main()
