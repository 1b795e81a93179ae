"""[21], [22], [23], [4], [11], [2]: reaches, ties, rings, the rim, and the box cut by ties."""

import unittest
from fractions import Fraction
from itertools import combinations, permutations
from math import atan2, tau

from nearlands.errors import NoBox, NoSpot, TooMany
from nearlands.lands import lands
from nearlands.webs import cut_by, reach, rim, rings, ties
from tests.helper import (
    CASES, RING, big, centre_of, check_field, check_fraction, check_kind, check_point, check_refused, copied,
    expected_reach, in_order, moved, moved_case, nearest_spots, side_of, small_cases, way_square, where,
)

TWELVE = [(k, k % 5) for k in range(10)] + [(0, 8), (10, 0)]
SQUARE = [(0, 0), (2, 0), (2, 2), (0, 2)]

# What has spots alone: those of the cases, and some more.
LISTS = {name: spots for name, (box, spots) in CASES.items()}
LISTS["square with spots on its sides"] = [(0, 0), (4, 4), (2, 0), (4, 2), (4, 0), (0, 4), (0, 2), (2, 4), (1, 0)]
LISTS["square with spots within"] = [(2, 2), (0, 0), (9, 9), (3, 5), (9, 0), (0, 9), (7, 4)]
LISTS["a line and one beside it"] = [(0, 0), (3, 0), (1, 0), (9, 0), (4, 1)]
LISTS["two rings"] = [(0, 0), (2, 0), (2, 2), (0, 2), (10, 0), (12, 0), (12, 2), (10, 2)]


def great(spots):
    return moved_case((0, 0, 1, 1), spots, big(11) // 10 ** 4, big(12) // 10, -big(13) // 10)[1]


def all_lists():
    """Tell the lists of spots by their names, and many small ones."""
    return list(LISTS.items()) + [(f"small {k}", spots) for k, (box, spots) in enumerate(small_cases(60))]


def expected_ties(spots):
    return [(i, j) for i, j in combinations(range(len(spots)), 2) if expected_reach(spots, i, j) is not None]


def expected_rings(spots):
    """Tell the rings by all threes of spots, and their order by the angles, of small numbers."""
    centres = []
    for three in combinations(range(len(spots)), 3):
        centre = centre_of(*[spots[number] for number in three])
        if centre is not None and set(three) <= set(nearest_spots(spots, centre)):
            centres.append(centre)
    told = []
    for centre in in_order(centres):
        near = nearest_spots(spots, centre)
        way = way_square(centre, spots[near[0]])
        told.append((centre, (way.numerator, way.denominator), sorted(near, key=angles_from(spots, near[0], centre))))
    return told


def angles_from(spots, first, centre):
    """Tell what tells of a number how far to the left its spot lies from the first, seen from the centre."""
    x, y = where(centre)

    def angle(number):
        return atan2(spots[number][1] - y, spots[number][0] - x)

    return lambda number: 0 if number == first else (angle(number) - angle(first)) % tau


class ReachTest(unittest.TestCase):
    def check_reach(self, spots, one, other):
        told = reach(spots, one, other)
        self.assertEqual(told, expected_reach(spots, one, other))
        if told is None:
            self.assertIsNone(reach(spots, other, one))
            return
        self.assertIs(type(told), tuple)
        start, end = told
        self.assertEqual(reach(spots, other, one), (end, start))
        for point in told:
            if point is not None:
                check_point(self, point)
                near = nearest_spots(spots, point)
                self.assertGreaterEqual(len(near), 3)
                self.assertLessEqual({one, other}, set(near))
        if start is not None and end is not None:
            self.assertEqual(side_of(start, end, (*spots[one], 1)), 1)
            self.assertEqual(side_of(start, end, (*spots[other], 1)), -1)

    def test_all_lists(self):
        for name, spots in all_lists():
            with self.subTest(name):
                for one, other in combinations(range(len(spots)), 2):
                    self.check_reach(spots, one, other)

    def test_without_end(self):
        self.assertEqual(reach([(0, 0), (4, 0)], 0, 1), (None, None))
        self.assertEqual(reach([(0, 0), (4, 0), (9, 0)], 1, 2), (None, None))
        self.assertEqual(reach([(big(1), 0), (4, big(2))], 1, 0), (None, None))

    def test_one_end(self):
        spots = [(0, 0), (4, 0), (2, 4)]
        self.assertEqual(reach(spots, 0, 1), (None, (4, 3, 2)))
        self.assertEqual(reach(spots, 1, 0), ((4, 3, 2), None))
        self.assertEqual(reach(spots, 0, 2), ((4, 3, 2), None))
        self.assertEqual(reach(spots, 2, 0), (None, (4, 3, 2)))

    def test_two_ends(self):
        spots = [(0, 0), (2, 0), (0, 2), (-2, 0), (0, -2)]
        self.assertEqual(reach(spots, 0, 1), ((1, -1, 1), (1, 1, 1)))
        self.assertEqual(reach(spots, 1, 0), ((1, 1, 1), (1, -1, 1)))
        self.assertEqual(reach(spots, 0, 2), ((1, 1, 1), (-1, 1, 1)))

    def test_not_tied(self):
        self.assertIsNone(reach([(0, 0), (4, 0), (9, 0)], 0, 2))
        self.assertIsNone(reach([(0, 0), (4, 0), (9, 0)], 2, 0))
        spots = [(0, 0), (2, 0), (0, 2), (-2, 0), (0, -2)]
        self.assertIsNone(reach(spots, 1, 3))
        # Where no other is between they are tied, if only far out.
        self.assertEqual(reach(spots, 1, 2), (None, (1, 1, 1)))

    def test_a_point_alone_is_no_reach(self):
        self.assertIsNone(reach(SQUARE, 0, 2))
        self.assertIsNone(reach(SQUARE, 3, 1))
        self.assertIsNone(reach(RING, 0, 6))
        self.assertIsNone(reach(great(SQUARE), 0, 2))
        self.assertEqual(reach(SQUARE, 0, 1), (None, (1, 1, 1)))

    def test_thirty_figures(self):
        scale, dx, dy = big(11) // 10 ** 4, big(12) // 10, -big(13) // 10
        for name, spots in LISTS.items():
            if name != "thirty figures":
                far = great(spots)
                for one, other in combinations(range(len(spots)), 2):
                    expected = reach(spots, one, other)
                    if expected is not None:
                        expected = tuple(point and moved(point, scale, dx, dy) for point in expected)
                    self.assertEqual(reach(far, one, other), expected)

    def test_refused(self):
        spots = [(1, 1), (2, 2), (5, 1)]
        for one, other, at in (
            (3, 0, 3), (0, 3, 3), (-1, 0, -1), (0, -1, -1), (4, 3, 4), (3, 4, 3), (3, 3, 3), (-1, 9, -1), (9, -1, 9),
            (0, 0, 0), (2, 2, 2), (1, 1, 1), (big(1), 0, big(1)), (-3, 0, -3), (2, 99, 99),
        ):
            check_refused(self, NoSpot, lambda: reach(spots, one, other), at)
        check_refused(self, NoSpot, lambda: reach([(1, 1)], 0, 0), 0)
        check_refused(self, NoSpot, lambda: reach([(1, 1)], 0, 1), 1)
        check_refused(self, NoSpot, lambda: reach([(1, 1), (2, 2), (1, 1)], 9, 9), 2)


class TiesTest(unittest.TestCase):
    def test_few(self):
        self.assertEqual(ties([(1, 1)]), [])
        self.assertEqual(ties([(1, 1), (big(1), 5)]), [(0, 1)])
        self.assertEqual(ties([(0, 0), (9, 0), (4, 0)]), [(0, 2), (1, 2)])
        self.assertEqual(ties([(0, 0), (4, 0), (2, 4)]), [(0, 1), (0, 2), (1, 2)])
        self.assertEqual(ties(SQUARE), [(0, 1), (0, 3), (1, 2), (2, 3)])

    def test_on_one_ring(self):
        self.assertEqual(ties(RING), sorted([(k, k + 1) for k in range(11)] + [(0, 11)]))
        self.assertEqual(ties(RING[:11] + [(0, 0)]),
                         sorted([(k, k + 1) for k in range(10)] + [(0, 10)] + [(k, 11) for k in range(11)]))

    def test_all_lists(self):
        for name, spots in all_lists():
            with self.subTest(name):
                told = ties(spots)
                self.assertIs(type(told), list)
                for tie in told:
                    self.assertIs(type(tie), tuple)
                    check_kind(self, tie)
                self.assertEqual(told, expected_ties(spots))
                self.assertEqual(told, sorted(told))
                self.assertEqual(ties(great(spots)), told)

    def test_lands_that_share_an_edge_are_tied(self):
        for box, spots in CASES.values():
            told = ties(spots)
            for number, field in enumerate(lands(box, spots)):
                for edge in field[1]:
                    if edge >= 0:
                        self.assertIn((min(number, edge), max(number, edge)), told)


class RingsTest(unittest.TestCase):
    def test_three(self):
        self.assertEqual(rings([(0, 0), (4, 0), (2, 4)]), [((4, 3, 2), (25, 4), [0, 1, 2])])
        self.assertEqual(rings([(0, 0), (2, 4), (4, 0)]), [((4, 3, 2), (25, 4), [0, 2, 1])])

    def test_four_and_more_on_one_ring(self):
        self.assertEqual(rings(SQUARE), [((1, 1, 1), (2, 1), [0, 1, 2, 3])])
        self.assertEqual(rings([SQUARE[2], SQUARE[0], SQUARE[1], SQUARE[3]]), [((1, 1, 1), (2, 1), [0, 3, 1, 2])])
        self.assertEqual(rings(RING), [((0, 0, 1), (25, 1), list(range(12)))])
        self.assertEqual(rings(RING[::-1]), [((0, 0, 1), (25, 1), [0] + list(range(11, 0, -1)))])
        mixed = [RING[7], RING[2], RING[10], RING[4], RING[0]]
        self.assertEqual(rings(mixed), [((0, 0, 1), (25, 1), [0, 2, 4, 1, 3])])

    def test_grid(self):
        self.assertEqual(rings([(0, 0), (2, 0), (4, 0), (0, 2), (2, 2), (4, 2)]), [
            ((1, 1, 1), (2, 1), [0, 1, 4, 3]), ((3, 1, 1), (2, 1), [1, 2, 5, 4]),
        ])

    def test_with_the_middle_of_a_ring(self):
        told = rings(RING[:11] + [(0, 0)])
        self.assertEqual(len(told), 11)
        for _, _, around in told:
            self.assertEqual(len(around), 3)
            self.assertIn(11, around)

    def test_none(self):
        self.assertEqual(rings([(1, 1)]), [])
        self.assertEqual(rings([(1, 1), (5, 5)]), [])
        self.assertEqual(rings([(1, 1), (5, 5), (3, 3), (big(1), big(1))]), [])

    def check_kinds(self, told):
        self.assertIs(type(told), list)
        for row in told:
            self.assertIs(type(row), tuple)
            centre, way, around = row
            check_point(self, centre)
            check_fraction(self, way)
            self.assertIs(type(around), list)
            check_kind(self, around)

    def test_all_lists(self):
        for name, spots in all_lists():
            with self.subTest(name):
                told = rings(spots)
                self.check_kinds(told)
                if name != "thirty figures":
                    self.assertEqual(told, expected_rings(spots))
                self.check_rings(spots, told)

    def check_rings(self, spots, told):
        """Fail unless the rings are as [22] says, looked at without angles, so for great numbers, too."""
        self.assertEqual([row[0] for row in told], [row[0] for row in expected_rings(spots)])
        for centre, way, around in told:
            self.assertEqual(sorted(around), nearest_spots(spots, centre))
            self.assertEqual(around[0], min(around))
            for spot in spots:
                self.assertGreaterEqual(way_square(centre, spot), Fraction(*way))
            # To the left all round, and just once: all others lie to the left of each step.
            for one, other in zip(around, around[1:] + around[:1]):
                for third in around:
                    if third not in (one, other):
                        self.assertEqual(side_of(*[(*spots[number], 1) for number in (one, other, third)]), 1)
        self.assertEqual(len(spots) - len(ties(spots)) + len(told), 1)

    def test_thirty_figures(self):
        scale, dx, dy = big(11) // 10 ** 4, big(12) // 10, -big(13) // 10
        for name, spots in LISTS.items():
            if name != "thirty figures":
                told = rings(great(spots))
                self.check_kinds(told)
                expected = rings(spots)
                self.assertEqual([row[0] for row in told], [moved(row[0], scale, dx, dy) for row in expected])
                self.assertEqual([row[2] for row in told], [row[2] for row in expected])
                self.assertEqual([Fraction(*row[1]) for row in told],
                                 [Fraction(*row[1]) * scale ** 2 for row in expected])


class RimTest(unittest.TestCase):
    def test_few(self):
        self.assertEqual(rim([(7, 7)]), [0])
        self.assertEqual(rim([(7, 7), (8, 1)]), [0, 1])
        self.assertEqual(rim([(8, 1), (7, 7)]), [1, 0])
        self.assertEqual(rim([(7, 7), (7, 1)]), [1, 0])
        self.assertEqual(rim([(0, 0), (4, 0), (2, 4)]), [0, 1, 2])
        self.assertEqual(rim([(2, 4), (4, 0), (0, 0)]), [2, 1, 0])

    def test_on_a_line_there_and_back(self):
        self.assertEqual(rim([(0, 0), (1, 0), (5, 0)]), [0, 1, 2, 1])
        self.assertEqual(rim([(0, 9), (0, 2), (0, 5), (0, 3)]), [1, 3, 2, 0, 2, 3])
        self.assertEqual(rim([(1, 1), (3, 3), (2, 2), (-9, -9)]), [3, 0, 2, 1, 2, 0])

    def test_spots_on_sides_and_within(self):
        self.assertEqual(rim(LISTS["square with spots on its sides"]), [0, 8, 2, 4, 3, 1, 7, 5, 6])
        self.assertEqual(rim(LISTS["square with spots within"]), [1, 4, 2, 5])
        self.assertEqual(rim(LISTS["a line and one beside it"]), [0, 2, 1, 3, 4])
        self.assertEqual(rim([(0, 0), (0, 2), (0, 1), (2, 2), (2, 0), (2, 1)]), [0, 4, 5, 3, 1, 2])
        self.assertEqual(rim(RING), [6, 7, 8, 9, 10, 11, 0, 1, 2, 3, 4, 5])

    def test_all_lists(self):
        for name, spots in all_lists():
            with self.subTest(name):
                told = rim(spots)
                self.assertIs(type(told), list)
                check_kind(self, told)
                self.assertEqual(told[0], spots.index(min(spots)))
                self.check_rim(spots, told)
                self.assertEqual(rim(great(spots)), told)

    def check_rim(self, spots, told):
        """Fail unless one goes round all spots along ties whose reach is without end, as [23] says."""
        if len(spots) == 1:
            self.assertEqual(told, [0])
            return
        told_ties = ties(spots)
        ends = [end for one, other in told_ties for end in reach(spots, one, other)]
        self.assertEqual(len(told), ends.count(None))
        steps = list(zip(told, told[1:] + told[:1]))
        self.assertEqual(len(set(steps)), len(steps))
        for one, other in steps:
            # The reach goes on without end to the right of the step, where no spot lies.
            self.assertIn((min(one, other), max(one, other)), told_ties)
            self.assertIsNone(reach(spots, one, other)[0])
            for number in range(len(spots)):
                self.assertGreaterEqual(side_of(*[(*spots[at], 1) for at in (one, other, number)]), 0)
            self.assertFalse([spot for spot in spots if is_between(spots[one], spots[other], spot)])


def is_between(one, other, third):
    """Tell whether the third spot lies on the way from the one to the other, and is neither."""
    if third in (one, other) or side_of((*one, 1), (*other, 1), (*third, 1)) != 0:
        return False
    return min(one, other) < third < max(one, other)


class CutByTest(unittest.TestCase):
    def test_all_ties(self):
        for box, spots in list(CASES.values()) + list(small_cases(40)):
            expected = lands(box, spots)
            handed = ties(spots)
            self.assertEqual(cut_by(box, spots, handed), expected)
            self.assertEqual(cut_by(box, spots, handed[::-1]), expected)
            self.assertEqual(cut_by(box, spots, handed[3:] + handed[:3]), expected)

    def test_none(self):
        for box, spots in CASES.values():
            x, y, u, v = box
            field = ([(x, y, 1), (u, y, 1), (u, v, 1), (x, v, 1)], [-1, -2, -3, -4])
            self.assertEqual(cut_by(box, spots, []), [field] * len(spots))

    def test_one(self):
        whole = ([(0, 0, 1), (4, 0, 1), (4, 4, 1), (0, 4, 1)], [-1, -2, -3, -4])
        self.assertEqual(cut_by((0, 0, 4, 4), [(1, 1), (3, 1), (1, 3)], [(0, 1)]), [
            ([(0, 0, 1), (2, 0, 1), (2, 4, 1), (0, 4, 1)], [-1, 1, -3, -4]),
            ([(2, 0, 1), (4, 0, 1), (4, 4, 1), (2, 4, 1)], [-1, -2, -3, 0]), whole,
        ])
        # A tie needn't be of neighbours in the list, and both its spots are cut by its line.
        self.assertEqual(cut_by((0, 0, 4, 4), [(1, 1), (3, 1), (1, 3)], [(0, 2)]), [
            ([(0, 0, 1), (4, 0, 1), (4, 2, 1), (0, 2, 1)], [-1, -2, 2, -4]), whole,
            ([(0, 2, 1), (4, 2, 1), (4, 4, 1), (0, 4, 1)], [0, -2, -3, -4]),
        ])

    def test_some(self):
        for box, spots in CASES.values():
            handed = ties(spots)[::2]
            told = cut_by(box, spots, handed)
            self.assertIs(type(told), list)
            self.assertEqual(told, cut_by(box, spots, handed[::-1]))
            for number, field in enumerate(told):
                check_field(self, field)
                others = [sum(tie) - number for tie in handed if number in tie]
                self.assertLessEqual({edge for edge in field[1] if edge >= 0}, set(others))
                # With its tied ones alone a spot has just this land.
                order = [number] + others
                (corners, edges) = lands(box, [spots[at] for at in order])[0]
                self.assertEqual(field, (corners, [edge if edge < 0 else order[edge] for edge in edges]))

    def test_all_orders_of_few(self):
        spots = [(1, 1), (3, 1), (1, 3), (3, 4)]
        handed = ties(spots)
        expected = lands((0, 0, 5, 5), spots)
        for order in permutations(handed):
            self.assertEqual(cut_by((0, 0, 5, 5), spots, list(order)), expected)

    def test_thirty_figures(self):
        scale, dx, dy = big(11) // 10 ** 4, big(12) // 10, -big(13) // 10
        for name, (box, spots) in CASES.items():
            if name != "thirty figures":
                handed = ties(spots)[1:]
                expected = [([moved(corner, scale, dx, dy) for corner in corners], edges)
                            for corners, edges in cut_by(box, spots, handed)]
                self.assertEqual(cut_by(*moved_case(box, spots, scale, dx, dy), handed), expected)

    def test_refused(self):
        box = (0, 0, 10, 8)
        for handed in ([], [(0, 1)]):
            check_refused(self, NoBox, lambda: cut_by((0, 0, 10, 0), [], handed))
            check_refused(self, TooMany, lambda: cut_by(box, [], handed))
            check_refused(self, TooMany, lambda: cut_by(box, TWELVE + [(9, 7)], handed))
            check_refused(self, NoSpot, lambda: cut_by(box, [(1, 1), (2, 2), (11, 1)], handed), 2)
            check_refused(self, NoSpot, lambda: cut_by(box, [(1, 1), (1, 1)], handed), 1)


class OwnTest(unittest.TestCase):
    """[2]: nothing that is handed in is changed, and what is told is the asker's own."""

    def test_own(self):
        for box, spots in CASES.values():
            handed, tied = list(spots), ties(spots)
            first = answers(box, handed, tied)
            self.assertEqual((handed, tied), (spots, ties(spots)))
            told_ties, told_rings, told_rim, fields = first
            kept_rings = [(centre, way, list(around)) for centre, way, around in told_rings]
            kept = list(told_ties), kept_rings, list(told_rim), [copied(field) for field in fields]
            for field in fields:
                field[0].clear()
                field[1].append(9)
            for row in told_rings:
                row[2].reverse()
                row[2].append(99)
            for told in first:
                told.clear()
            self.assertEqual(answers(box, handed, tied), kept)


def answers(box, spots, tied):
    return ties(spots), rings(spots), rim(spots), cut_by(box, spots, tied)


if __name__ == "__main__":
    unittest.main()
