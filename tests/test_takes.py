"""[14], [4], [11], [2]: what a spot more takes of the lands of others."""

import unittest
from fractions import Fraction

from nearlands.errors import NoBox, NoSpot, TooMany
from nearlands.fields import area
from nearlands.lands import land_of, lands
from nearlands.takes import takes
from tests.helper import (
    CASES, RING, big, check_fraction, check_kind, check_refused, moved_case, small_cases, twice_area,
)

BOX = (0, 0, 10, 8)
TWELVE = [(k, k % 5) for k in range(10)] + [(0, 8), (10, 0)]


class TakesTest(unittest.TestCase):
    def check_takes(self, box, spots, spot):
        """Fail unless takes tells just what [14] says, looked at by the lands without and with the one more."""
        told = takes(box, spots, spot)
        self.assertIs(type(told), list)
        for row in told:
            self.assertIs(type(row), tuple)
            check_kind(self, row[:1])
            check_fraction(self, row[1])
        without, along = lands(box, spots), lands(box, spots + [spot])
        parts = [(twice_area(one) - twice_area(other)) / 2 for one, other in zip(without, along)]
        expected = [(number, (part.numerator, part.denominator)) for number, part in enumerate(parts) if part != 0]
        self.assertEqual(told, expected)
        own = land_of(box, spots + [spot], len(spots))
        self.assertEqual([number for number, _ in told], sorted(called for called in own[1] if called >= 0))
        self.assertEqual(sum(Fraction(*part) for _, part in told), Fraction(*area(own)))
        self.assertTrue(all(Fraction(*part) > 0 for _, part in told))

    def test_within_one_land(self):
        self.assertEqual(takes((0, 0, 4, 4), [(1, 1)], (3, 1)), [(0, (8, 1))])
        # The land of the one more lies all in that of a spot across the box from the others.
        self.assertEqual(takes((0, 0, 100, 10), [(0, 5), (50, 5)], (100, 5)), [(1, (250, 1))])

    def test_across_several(self):
        self.assertEqual(takes((0, 0, 8, 2), [(1, 1), (7, 1)], (4, 1)), [(0, (3, 1)), (1, (3, 1))])
        self.assertEqual(takes((-4, -4, 4, 4), [(-4, 0), (4, 0), (0, 4), (0, -4)], (0, 0)),
                         [(0, (4, 1)), (1, (4, 1)), (2, (4, 1)), (3, (4, 1))])

    def test_lowest_terms_and_rising_numbers(self):
        self.assertEqual(takes((0, 0, 3, 3), [(3, 3), (0, 3), (3, 0)], (0, 0)), [(1, (9, 8)), (2, (9, 8))])
        self.assertEqual(takes((0, 0, 2, 1), [(2, 0)], (1, 1)), [(0, (3, 2))])
        self.assertEqual(takes((0, 0, 3, 1), [(3, 0)], (1, 1)), [(0, (2, 1))])

    def test_lands_that_would_touch_in_a_point_alone(self):
        # Spots 0 and 3 lie across from one another: the middle of the four is as near to each.
        self.assertEqual(takes((0, 0, 4, 4), [(1, 1), (3, 1), (1, 3)], (3, 3)), [(1, (2, 1)), (2, (2, 1))])

    def test_on_sides_and_corners_of_the_box(self):
        for name, (box, spots) in CASES.items():
            x, y, u, v = box
            for spot in ((x, y), (u, v), (x, v), (u, y), (x, (y + v) // 2), ((x + u) // 2, v)):
                if spot not in spots and len(spots) < 12:
                    with self.subTest(name, spot=spot):
                        self.check_takes(box, spots, spot)

    def test_all_cases_but_their_last(self):
        for name, (box, spots) in CASES.items():
            if len(spots) > 1:
                with self.subTest(name):
                    self.check_takes(box, spots[:-1], spots[-1])
                    self.check_takes(box, spots[1:], spots[0])

    def test_many_with_small_numbers(self):
        for box, spots in small_cases(60):
            if len(spots) > 1:
                self.check_takes(box, spots[:-1], spots[-1])

    def test_thirty_figures(self):
        scale, dx, dy = big(11) // 10 ** 4, big(12) // 10, -big(13) // 10
        for name, (box, spots) in CASES.items():
            if name != "thirty figures" and len(spots) > 1:
                with self.subTest(name):
                    great_box, great_spots = moved_case(box, spots, scale, dx, dy)
                    told = takes(great_box, great_spots[:-1], great_spots[-1])
                    small_told = takes(box, spots[:-1], spots[-1])
                    self.assertEqual([(number, Fraction(*part)) for number, part in told],
                                     [(number, Fraction(*part) * scale ** 2) for number, part in small_told])
                    self.check_takes(great_box, great_spots[:-1], great_spots[-1])

    def test_the_middle_of_a_ring(self):
        told = takes((-6, -6, 6, 6), RING[::2], (0, 0))
        self.assertEqual([number for number, _ in told], list(range(6)))
        self.check_takes((-6, -6, 6, 6), RING[::2], (0, 0))


class RefusedTest(unittest.TestCase):
    def check(self, kind, box, spots, spot, at=None):
        handed = list(spots)
        check_refused(self, kind, lambda: takes(box, spots, spot), at)
        self.assertEqual(spots, handed)

    def test_box_and_spots(self):
        self.check(NoBox, (0, 0, 0, 8), [(0, 0)], (0, 1))
        self.check(TooMany, BOX, [], (1, 1))
        self.check(TooMany, BOX, TWELVE + [(9, 7)], (1, 1))
        self.check(NoSpot, BOX, [(1, 1), (11, 1), (2, 2)], (3, 3), 1)
        self.check(NoSpot, BOX, [(1, 1), (2, 2), (1, 1)], (3, 3), 2)

    def test_twelve_and_one_more(self):
        self.assertEqual(len(TWELVE), 12)
        self.check(TooMany, BOX, TWELVE, (9, 7))
        self.assertTrue(takes(BOX, TWELVE[:11], (9, 7)))

    def test_one_more_that_may_not_be(self):
        for spots in ([(1, 1)], [(5, 5), (1, 1), (2, 3)], TWELVE[:11]):
            for wrong in ((-1, 4), (11, 4), (4, -1), (4, 9), (big(1), 0), spots[0], spots[-1]):
                self.check(NoSpot, BOX, spots, wrong, len(spots))

    def test_several_wrong_things(self):
        self.check(NoBox, (0, 0, 10, 0), [], (99, 99))
        self.check(NoBox, (0, 0, 10, 0), [(99, 99)], (99, 99))
        self.check(TooMany, BOX, [], (99, 99))
        self.check(TooMany, BOX, TWELVE + [(99, 99)], (99, 99))
        self.check(NoSpot, BOX, [(99, 99)], (99, 98), 0)
        self.check(NoSpot, BOX, [(1, 1), (1, 1)], (1, 1), 1)
        # What is wrong among the twelve goes ahead of the one more that is too many.
        self.check(NoSpot, BOX, TWELVE[:11] + [(99, 99)], (9, 7), 11)
        self.check(NoSpot, BOX, TWELVE[:11] + [TWELVE[0]], (99, 99), 11)
        # The one more that is too many goes ahead of its place.
        self.check(TooMany, BOX, TWELVE, (99, 99))
        self.check(TooMany, BOX, TWELVE, TWELVE[4])


class OwnTest(unittest.TestCase):
    """[2]: nothing that is handed in is changed, and what is told is the asker's own."""

    def test_own(self):
        for box, spots in CASES.values():
            if len(spots) > 1:
                handed = spots[:-1]
                told = takes(box, handed, spots[-1])
                self.assertEqual(handed, spots[:-1])
                kept = list(told)
                told.clear()
                self.assertEqual(takes(box, handed, spots[-1]), kept)


if __name__ == "__main__":
    unittest.main()
