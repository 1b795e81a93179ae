"""[26], [4], [11], [2]: farthest lands, and the least ring round all spots."""

import unittest
from fractions import Fraction
from itertools import combinations

from nearlands.errors import NoBox, NoSpot, TooMany
from nearlands.far import far_lands, least_ring
from nearlands.fields import box_field
from tests.helper import (
    CASES, GREAT, RING, big, centre_of, check_fraction, check_kind, check_parting, check_point, check_refused,
    copied_fields, expected_parting, great_case, has_point, moved, moved_field, point_at, small_cases, some_points,
    spoil, way_square, where,
)

TWELVE = [(k, k % 5) for k in range(10)] + [(0, 8), (10, 0)]
BOX = (0, 0, 4, 2)


class FarLandsTest(unittest.TestCase):
    def check(self, box, spots):
        told = far_lands(box, spots)
        check_parting(self, box, told)
        self.assertEqual(told, expected_parting(box, spots, far=True))
        return told

    def test_one(self):
        for spot in ((1, 1), (0, 0), (4, 2), (4, 1)):
            self.assertEqual(far_lands(BOX, [spot]), [box_field(BOX)])

    def test_two(self):
        self.assertEqual(far_lands(BOX, [(1, 1), (3, 1)]), [
            ([(2, 0, 1), (4, 0, 1), (4, 2, 1), (2, 2, 1)], [-1, -2, -3, 1]),
            ([(0, 0, 1), (2, 0, 1), (2, 2, 1), (0, 2, 1)], [-1, 0, -3, -4]),
        ])
        self.assertEqual(far_lands((0, 0, 2, 2), [(0, 0), (2, 2)]), [
            ([(0, 2, 1), (2, 0, 1), (2, 2, 1)], [1, -2, -3]), ([(0, 0, 1), (2, 0, 1), (0, 2, 1)], [-1, 0, -4]),
        ])

    def test_three_on_a_line(self):
        self.assertEqual(far_lands(BOX, [(0, 1), (3, 1), (1, 1)]), [
            ([(3, 0, 2), (4, 0, 1), (4, 2, 1), (3, 4, 2)], [-1, -2, -3, 1]),
            ([(0, 0, 1), (3, 0, 2), (3, 4, 2), (0, 2, 1)], [-1, 0, -3, -4]), None,
        ])

    def test_within_the_others(self):
        told = self.check((0, 0, 6, 6), [(0, 0), (6, 0), (3, 2), (3, 6)])
        self.assertIsNone(told[2])
        self.assertNotIn(None, told[:2] + told[3:])

    def test_a_spot_that_is_farthest_at_a_point_alone(self):
        # At the corner (5, 0) of the box all three are as far; nowhere else is 1 a farthest one.
        told = self.check((0, 0, 5, 5), [(0, 0), (1, 3), (5, 5)])
        self.assertEqual(told[1], None)
        self.assertIn((5, 0, 1), told[0][0])
        # All but the middle one are as far from it: each has a part that ends there.
        told = self.check((-1, -1, 1, 1), [(1, 0), (0, 1), (-1, 0), (0, -1), (0, 0)])
        self.assertIsNone(told[4])
        for field in told[:4]:
            self.assertIn((0, 0, 1), field[0])

    def test_a_field_may_lie_off_its_spot(self):
        told = self.check((0, 0, 10, 4), [(1, 2), (9, 2)])
        self.assertFalse(has_point(told[0], (1, 2, 1)))
        self.assertTrue(has_point(told[0], (9, 2, 1)))

    def test_a_spot_at_the_rim_of_which_the_box_has_no_farthest_point(self):
        # Its farthest points lie beyond the box.
        told = self.check((0, 0, 4, 100), [(0, 0), (4, 0), (0, 100), (4, 100), (4, 50)])
        self.assertIsNone(told[4])

    def test_ring_with_its_middle(self):
        told = self.check(*CASES["ring with its middle"])
        self.assertIsNone(told[11])

    def test_grid(self):
        box, spots = CASES["grid"]
        told = self.check(box, spots)
        corners = [(0, 0), (6, 0), (0, 4), (6, 4)]
        self.assertEqual([spot for spot, field in zip(spots, told) if field is not None], sorted(corners))

    def test_all_cases(self):
        for name, (box, spots) in list(CASES.items()) + list(enumerate(small_cases(60))):
            with self.subTest(name):
                told = self.check(box, spots)
                if name != "thirty figures":
                    far = self.check(*great_case(box, spots))
                    self.assertEqual(far, [moved_field(field, *GREAT) for field in told])

    def test_a_point_lies_in_the_fields_of_its_farthest_spots(self):
        for box, spots in CASES.values():
            told = far_lands(box, spots)
            for point in some_points(box, [field for field in told if field is not None]):
                ways = [way_square(point, spot) for spot in spots]
                for way, field in zip(ways, told):
                    if field is not None:
                        self.assertEqual(has_point(field, point), way == max(ways))

    def test_refused(self):
        for spots in ([(1, 1)], [], TWELVE + [(9, 7)], [(99, 99), (99, 99)]):
            check_refused(self, NoBox, lambda: far_lands((0, 0, 10, 0), spots))
        check_refused(self, TooMany, lambda: far_lands((0, 0, 10, 8), []))
        check_refused(self, TooMany, lambda: far_lands((0, 0, 10, 8), TWELVE + [(99, 99)]))
        check_refused(self, NoSpot, lambda: far_lands((0, 0, 10, 8), [(1, 1), (11, 1), (1, 1)]), 1)
        check_refused(self, NoSpot, lambda: far_lands((0, 0, 10, 8), [(1, 1), (2, 1), (1, 1)]), 2)


class LeastRingTest(unittest.TestCase):
    def test_one(self):
        self.assertEqual(least_ring([(3, -7)]), ((3, -7, 1), (0, 1), [0]))
        self.assertEqual(least_ring([(big(1), -big(2))]), ((big(1), -big(2), 1), (0, 1), [0]))

    def test_two(self):
        self.assertEqual(least_ring([(0, 0), (4, 2)]), ((2, 1, 1), (5, 1), [0, 1]))
        self.assertEqual(least_ring([(3, 0), (0, 2)]), ((3, 2, 2), (13, 4), [0, 1]))

    def test_three(self):
        # A right angle: its spot lies on the ring of the other two. A wide one: it lies within. All narrow: on it.
        self.assertEqual(least_ring([(0, 0), (4, 0), (0, 2)]), ((2, 1, 1), (5, 1), [0, 1, 2]))
        self.assertEqual(least_ring([(1, 1), (4, 0), (0, 2)]), ((2, 1, 1), (5, 1), [1, 2]))
        self.assertEqual(least_ring([(0, 0), (4, 0), (2, 4)]), ((4, 3, 2), (25, 4), [0, 1, 2]))
        self.assertEqual(least_ring([(0, 0), (4, 0), (1, 3)]), ((2, 1, 1), (5, 1), [0, 1, 2]))
        self.assertEqual(least_ring([(0, 0), (6, 0), (1, 5)]), ((3, 2, 1), (13, 1), [0, 1, 2]))

    def test_a_centre_with_a_last_number_above_two(self):
        self.assertEqual(least_ring([(0, 0), (3, 1), (1, 3)]), ((5, 5, 4), (25, 8), [0, 1, 2]))

    def test_on_a_line(self):
        self.assertEqual(least_ring([(2, 2), (0, 0), (1, 1), (7, 7)]), ((7, 7, 2), (49, 2), [1, 3]))
        self.assertEqual(least_ring([(5, 9), (5, 3), (5, 0)]), ((10, 9, 2), (81, 4), [0, 2]))

    def test_on_a_ring(self):
        self.assertEqual(least_ring([(0, 0), (2, 0), (2, 2), (0, 2)]), ((1, 1, 1), (2, 1), [0, 1, 2, 3]))
        self.assertEqual(least_ring(RING), ((0, 0, 1), (25, 1), list(range(12))))
        self.assertEqual(least_ring([(0, 0)] + RING[:7] + [(1, 1)]), ((0, 0, 1), (25, 1), [1, 2, 3, 4, 5, 6, 7]))
        # Less than half of the ring: the two ends hold a lesser one.
        self.assertEqual(least_ring(RING[1:5])[2], [0, 3])

    def test_within(self):
        self.assertEqual(least_ring([(5, 5), (0, 0), (3, 4), (10, 0), (10, 10), (9, 9), (0, 10)]),
                         ((5, 5, 1), (50, 1), [1, 3, 4, 6]))

    def check(self, spots):
        """Fail unless this is the least ring, looked at by all twos and threes of spots."""
        told = least_ring(spots)
        self.assertIs(type(told), tuple)
        centre, square, on = told
        check_point(self, centre)
        check_fraction(self, square)
        self.assertIs(type(on), list)
        check_kind(self, on)
        ways = [way_square(centre, spot) for spot in spots]
        self.assertEqual(max(ways), Fraction(*square))
        self.assertEqual(on, [number for number, way in enumerate(ways) if way == max(ways)])
        # No centre is better, as the one told lies amid those that are so far: on no side of it are there none of them.
        self.assertTrue(is_amid(centre, [spots[number] for number in on]))
        self.assertEqual(centre, expected_centre(spots))
        return told

    def test_all_lists(self):
        for name, (box, spots) in list(CASES.items()) + list(enumerate(small_cases(60))):
            with self.subTest(name):
                centre, square, on = self.check(spots)
                if name != "thirty figures":
                    scale = GREAT[0]
                    great = self.check(great_case(box, spots)[1])
                    self.assertEqual(great[0], moved(centre, *GREAT))
                    self.assertEqual(Fraction(*great[1]), Fraction(*square) * scale ** 2)
                    self.assertEqual(great[2], on)

    def test_the_order_of_spots_is_no_matter(self):
        for box, spots in CASES.values():
            centre, square, on = least_ring(spots)
            other = least_ring(spots[::-1])
            self.assertEqual(other, (centre, square, [len(spots) - 1 - number for number in on[::-1]]))

    def test_a_last_figure(self):
        # The third spot lies just within, just on, and just beyond the ring of the other two.
        one, other = big(1), big(2)
        for more, on in ((-1, [0, 1]), (0, [0, 1, 2])):
            self.assertEqual(least_ring([(one, other), (-one, -other), (other + more, -one)])[2], on)
        self.assertNotEqual(least_ring([(one, other), (-one, -other), (other + 1, -one)])[0], (0, 0, 1))

    def test_refused(self):
        check_refused(self, TooMany, lambda: least_ring([]))
        check_refused(self, TooMany, lambda: least_ring([(1, 1)] * 13))
        check_refused(self, NoSpot, lambda: least_ring([(1, 1), (2, 2), (2, 2), (1, 1)]), 2)


def is_amid(centre, spots):
    """Tell whether the centre lies among the spots: no half turn about it is without any of them."""
    x, y = where(centre)
    ways = [(a - x, b - y) for a, b in spots]
    if any(way == (0, 0) for way in ways):
        return True
    # Where all lie within less than a half turn, one of them has all others to its left, none straight across.
    return not any(all(a * d - b * c > 0 or a * d == b * c and a * c + b * d > 0 for c, d in ways) for a, b in ways)


def expected_centre(spots):
    """Tell the centre of the least of all rings of two or three spots that hold all."""
    if len(spots) == 1:
        return (*spots[0], 1)
    centres = [point_at(Fraction(a + c, 2), Fraction(b + d, 2)) for (a, b), (c, d) in combinations(spots, 2)]
    centres += [centre_of(*three) for three in combinations(spots, 3) if centre_of(*three) is not None]
    return min(centres, key=lambda centre: max(way_square(centre, spot) for spot in spots))


class OwnTest(unittest.TestCase):
    """[2]: nothing that is handed in is changed, and what is told is the asker's own."""

    def test_own(self):
        for box, spots in CASES.values():
            handed = list(spots)
            fields, ring = far_lands(box, handed), least_ring(handed)
            kept = copied_fields(fields), (ring[0], ring[1], list(ring[2]))
            spoil(fields)
            ring[2].append(99)
            self.assertEqual((far_lands(box, handed), least_ring(handed)), kept)
            self.assertEqual(handed, spots)


if __name__ == "__main__":
    unittest.main()
