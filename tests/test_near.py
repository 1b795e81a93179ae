"""[24], [25], [4], [11], [3], [2]: the nearest few of a point, the walk to a nearest one, and lists that show them."""

import unittest
from itertools import permutations, product

from nearlands.errors import NoCount, NoSpot, TooMany
from nearlands.near import nearest, shows_near, walk
from nearlands.webs import rings, ties
from tests.helper import (
    CASES, GREAT, RING, big, check_kind, check_refused, great_case, middle, moved, nearest_spots, small, small_cases,
    way_square,
)

TWELVE = [(k, k % 5) for k in range(10)] + [(0, 8), (10, 0)]
LINE = [(0, 0), (9, 0), (3, 0), (6, 0)]
SQUARE = [(0, 0), (2, 0), (2, 2), (0, 2)]


def points_of(spots):
    """Tell points that are spots, amid two and three of them, at centres of rings, far off, and anywhere."""
    at = [(x, y, 1) for x, y in spots]
    points = at + [middle(one, other) for one, other in zip(at, at[1:])]
    points += [middle(*three) for three in zip(at, at[2:], at[1:])]
    points += [centre for centre, _, _ in rings(spots)]
    points += [(10 ** 9, -7, 1), (-big(1), big(2), 1), (small(len(spots), -9, 9), 5, 7)]
    return points


def lists():
    """Tell lists of spots, small and great."""
    told = [spots for _, spots in CASES.values()] + [spots for _, spots in small_cases(25)]
    return told + [great_case(*CASES[name])[1] for name in ("grid", "ring with its middle", "oblique line")]


def expected_nearest(spots, point):
    return sorted(range(len(spots)), key=lambda number: (way_square(point, spots[number]), number))


def expected_walk(ways, told_ties, number):
    """Tell the walk by the ties and the ways to all spots, Python's fractions."""
    way = [number]
    while True:
        tied = [sum(tie) - way[-1] for tie in told_ties if way[-1] in tie]
        best = min(tied, key=lambda other: (ways[other], other), default=None)
        if best is None or ways[best] >= ways[way[-1]]:
            return way
        way.append(best)


def is_shown(spots, point, found):
    """Tell what [25] says first, word by word."""
    if len(found) == 0 or len(set(found)) < len(found) or not set(found) <= set(range(len(spots))):
        return False
    ways = [way_square(point, spot) for spot in spots]
    if any(ways[later] < ways[earlier] for earlier, later in zip(found, found[1:])):
        return False
    others = set(range(len(spots))) - set(found)
    return not any(ways[other] < ways[one] for other in others for one in found)


def is_shown_by_ties(spots, both, point, found):
    """Tell what [25] says behind that, by ties alone, each told both ways."""
    if len(found) == 0 or len(set(found)) < len(found) or not set(found) <= set(range(len(spots))):
        return False
    ways = [way_square(point, spot) for spot in spots]
    if any(ways[later] < ways[earlier] for earlier, later in zip(found, found[1:])):
        return False
    if any(ways[other] < ways[found[0]] for one, other in both if one == found[0]):
        return False
    return not any(ways[other] < ways[found[-1]] for one, other in both if one in found and other not in found)


class NearestTest(unittest.TestCase):
    def test_ordinary(self):
        spots = [(0, 0), (4, 0), (2, 4), (2, 1)]
        self.assertEqual(nearest(spots, (1, 0, 1), 1), [0])
        self.assertEqual(nearest(spots, (1, 0, 1), 3), [0, 3, 1])
        self.assertEqual(nearest(spots, (1, 0, 1), 4), [0, 3, 1, 2])
        self.assertEqual(nearest(spots, (7, 8, 2), 4), [2, 3, 1, 0])
        self.assertEqual(nearest([(5, 5)], (big(1), -big(2), 3), 1), [0])

    def test_as_near_ones_by_their_numbers(self):
        self.assertEqual(nearest(SQUARE, (1, 1, 1), 1), [0])
        self.assertEqual(nearest(SQUARE, (1, 1, 1), 4), [0, 1, 2, 3])
        self.assertEqual(nearest(SQUARE[::-1], (1, 1, 1), 3), [0, 1, 2])
        self.assertEqual(nearest(SQUARE, (2, 1, 1), 3), [1, 2, 0])
        self.assertEqual(nearest(RING, (0, 0, 1), 12), list(range(12)))
        self.assertEqual(nearest([(9, 9)] + RING[:11], (0, 0, 1), 12), list(range(1, 12)) + [0])
        self.assertEqual(nearest([(4, 0), (0, 0), (2, 9)], (2, 0, 1), 2), [0, 1])

    def test_all_lists(self):
        for spots in lists():
            for point in points_of(spots):
                order = expected_nearest(spots, point)
                for count in range(1, len(spots) + 1):
                    told = nearest(spots, point, count)
                    self.assertIs(type(told), list)
                    check_kind(self, told)
                    self.assertEqual(told, order[:count])

    def test_thirty_figures(self):
        for name, (box, spots) in CASES.items():
            if name != "thirty figures":
                far = great_case(box, spots)[1]
                for point in ((1, 1, 1), (7, -3, 2), (22, 15, 7)):
                    self.assertEqual(nearest(far, moved(point, *GREAT), len(spots)), nearest(spots, point, len(spots)))
        # A last figure tells which is nearer.
        one, other = big(1), big(2)
        self.assertEqual(nearest([(one + 1, other), (-one, -other)], (0, 0, 1), 2), [1, 0])
        self.assertEqual(nearest([(one, other), (-one, -other)], (0, 0, 1), 2), [0, 1])
        self.assertEqual(nearest([(one - 1, other), (-one, -other)], (0, 0, 1), 2), [0, 1])

    def test_no_count(self):
        for spots in ([(1, 1)], LINE, TWELVE):
            for count in (0, -1, -len(spots), len(spots) + 1, 99, big(1), -big(1)):
                check_refused(self, NoCount, lambda: nearest(spots, (1, 1, 1), count))

    def test_spots_go_first(self):
        for count in (0, 1, 14):
            check_refused(self, TooMany, lambda: nearest([], (1, 1, 1), count))
            check_refused(self, TooMany, lambda: nearest(TWELVE + [(9, 7)], (1, 1, 1), count))
            check_refused(self, NoSpot, lambda: nearest([(1, 1), (2, 2), (1, 1)], (1, 1, 1), count), 2)


class WalkTest(unittest.TestCase):
    def check_walks(self, spots, point, told_ties):
        ways = [way_square(point, spot) for spot in spots]
        near = nearest_spots(spots, point)
        for number in range(len(spots)):
            told = walk(spots, point, number)
            self.assertIs(type(told), list)
            check_kind(self, told)
            self.assertEqual(told, expected_walk(ways, told_ties, number))
            self.assertEqual(told[0], number)
            gone = [ways[at] for at in told]
            self.assertEqual(gone, sorted(set(gone), reverse=True))
            for one, other in zip(told, told[1:]):
                self.assertIn((min(one, other), max(one, other)), told_ties)
            self.assertIn(told[-1], near)

    def test_one(self):
        self.assertEqual(walk([(3, 3)], (99, 1, 2), 0), [0])
        self.assertEqual(walk(LINE, (-5, 1, 1), 0), [0])
        # One that is as near stays where it is.
        self.assertEqual(walk(SQUARE, (1, 1, 1), 2), [2])
        self.assertEqual(walk(RING, (0, 0, 1), 7), [7])
        self.assertEqual(walk([(0, 0), (2, 0)], (1, 5, 1), 1), [1])

    def test_several(self):
        self.assertEqual(walk(LINE, (-5, 1, 1), 1), [1, 3, 2, 0])
        self.assertEqual(walk(LINE, (-5, 1, 1), 3), [3, 2, 0])
        self.assertEqual(walk(LINE, (19, 0, 2), 0), [0, 2, 3, 1])
        self.assertEqual(walk(LINE, (10, 0, 2), 0), [0, 2, 3])
        self.assertEqual(walk(LINE, (9, 0, 2), 0), [0, 2])
        self.assertEqual(walk(LINE, (9, 0, 2), 1), [1, 3])

    def test_of_as_near_tied_ones_the_least_number(self):
        self.assertEqual(walk(SQUARE, (2, 2, 1), 0), [0, 1, 2])
        self.assertEqual(walk([SQUARE[0], SQUARE[3], SQUARE[2], SQUARE[1]], (2, 2, 1), 0), [0, 1, 2])
        self.assertEqual(walk(RING[:11] + [(0, 0)], (-5, 0, 1), 11), [11, 6])
        self.assertEqual(walk([(0, 9), (3, 0), (-3, 0)], (0, 0, 1), 0), [0, 1])
        self.assertEqual(walk([(0, 9), (-3, 0), (3, 0)], (0, 0, 1), 0), [0, 1])

    def test_a_tied_one_that_is_nearest_goes_ahead_of_lesser_numbers(self):
        # From the middle all are tied; just the one toward the point is taken.
        spots = [(0, 0), (4, 0), (0, 4), (-4, 0), (0, -4)]
        self.assertEqual(walk(spots, (-9, 1, 1), 0), [0, 3])
        self.assertEqual(walk(spots, (1, -9, 1), 0), [0, 4])

    def test_round_a_ring(self):
        # Without a middle the ties go along the ring alone.
        self.assertEqual(walk(RING, (5, 0, 1), 5), [5, 4, 3, 2, 1, 0])
        self.assertEqual(walk(RING, (5, 0, 1), 6), [6, 5, 4, 3, 2, 1, 0])
        self.assertEqual(walk(RING, (5, 0, 1), 7), [7, 8, 9, 10, 11, 0])
        self.assertEqual(walk(RING[:11] + [(0, 0)], (5, 0, 1), 5), [5, 11, 0])

    def test_from_each_spot(self):
        for spots in lists():
            told_ties = ties(spots)
            for point in points_of(spots)[::2]:
                self.check_walks(spots, point, told_ties)

    def test_thirty_figures(self):
        for name, (box, spots) in CASES.items():
            if name != "thirty figures":
                far = great_case(box, spots)[1]
                for point in ((1, 1, 1), (7, -3, 2), (99, 15, 7)):
                    for number in range(len(spots)):
                        self.assertEqual(walk(far, moved(point, *GREAT), number), walk(spots, point, number))

    def test_a_number_that_no_spot_has(self):
        for spots in ([(1, 1)], LINE, TWELVE):
            for number in (len(spots), -1, -len(spots), 99, big(1), -big(1)):
                check_refused(self, NoSpot, lambda: walk(spots, (1, 1, 1), number), number)

    def test_spots_go_first(self):
        for number in (0, -1, 99):
            check_refused(self, TooMany, lambda: walk([], (1, 1, 1), number))
            check_refused(self, TooMany, lambda: walk(TWELVE + [(9, 7)], (1, 1, 1), number))
            check_refused(self, NoSpot, lambda: walk([(1, 1), (1, 1), (5, 5)], (1, 1, 1), number), 1)


class ShowsNearTest(unittest.TestCase):
    def check(self, expected, spots, point, found):
        handed = list(found)
        self.assertIs(shows_near(spots, point, handed), expected)
        self.assertEqual(handed, found)

    def test_ordinary(self):
        spots = [(0, 0), (4, 0), (2, 4), (2, 1)]
        point = (1, 0, 1)
        for found in ([0], [0, 3], [0, 3, 1], [0, 3, 1, 2]):
            self.check(True, spots, point, found)
        for found in ([3], [3, 0], [0, 1], [0, 2, 1], [0, 3, 2, 1], [1], [0, 3, 2], [3, 1], [0, 1, 2]):
            self.check(False, spots, point, found)

    def test_as_near_ones(self):
        # 0 and 1 are as near, then 2 and 3.
        spots, point = [(1, 0), (-1, 0), (3, 0), (-3, 0)], (0, 0, 1)
        for found in ([0], [1], [0, 1], [1, 0], [0, 1, 2], [1, 0, 3], [1, 0, 3, 2], [0, 1, 2, 3]):
            self.check(True, spots, point, found)
        for found in ([2], [0, 2], [1, 3], [2, 0, 1], [0, 2, 1], [1, 2, 3], [2, 3, 0, 1], [0, 1, 3, 3]):
            self.check(False, spots, point, found)

    def test_what_is_no_list_of_unlike_spots(self):
        for point in ((0, 0, 1), (1, 1, 2)):
            for found in ([], [0, 0], [0, 1, 1], [0, 1, 2, 3, 0], [4], [0, 4], [-1], [0, -1], [-4], [0, 1, 2, 3, 4],
                          [big(1)], [-big(1), 0], [99], [0] * 12, [0] * 99, list(range(99))):
                self.check(False, SQUARE, point, found)
        self.check(False, [(1, 1)], (1, 1, 1), [])
        self.check(False, [(1, 1)], (1, 1, 1), [-1])
        self.check(False, [(1, 1)], (1, 1, 1), [0, 0])
        self.check(True, [(1, 1)], (1, 1, 1), [0])

    def test_all_small_lists(self):
        for box, spots in small_cases(12):
            some = spots[:5]
            for point in points_of(some):
                for count in range(4):
                    for found in product(range(-1, len(some) + 1), repeat=count):
                        self.check(is_shown(some, point, list(found)), some, point, list(found))
                for found in permutations(range(len(some))):
                    self.check(is_shown(some, point, list(found)), some, point, list(found))

    def test_the_nearest_few_and_nearly_those(self):
        for spots in lists():
            both = ties(spots) + [(other, one) for one, other in ties(spots)]
            for point in points_of(spots)[::3]:
                for count in (1, 2, len(spots) // 2, len(spots)):
                    if 0 < count <= len(spots):
                        order = nearest(spots, point, count)
                        self.check(True, spots, point, order)
                        for found in (order[::-1], order[1:], order[:-1], order + [order[0]], order[:1] + order[2:],
                                      order[1:2] + order[:1] + order[2:], order[:-1] + [len(spots) - 1],
                                      [0] + order[1:], order + [len(spots) // 2]):
                            self.check(is_shown(spots, point, found), spots, point, found)
                            self.check(is_shown_by_ties(spots, both, point, found), spots, point, found)

    def test_thirty_figures(self):
        one, other = big(1), big(2)
        for more, shown in ((0, (True, True)), (1, (False, True)), (-1, (True, False))):
            spots = [(one + more, other), (-one, -other)]
            self.check(shown[0], spots, (0, 0, 1), [0])
            self.check(shown[1], spots, (0, 0, 1), [1])
            self.check(shown[0], spots, (0, 0, 1), [0, 1])

    def test_refused(self):
        for found in ([], [0], [0, 0], [99]):
            check_refused(self, TooMany, lambda: shows_near([], (1, 1, 1), found))
            check_refused(self, TooMany, lambda: shows_near(TWELVE + [(9, 7)], (1, 1, 1), found))
            check_refused(self, NoSpot, lambda: shows_near([(1, 1), (5, 5), (1, 1)], (1, 1, 1), found), 2)


class OwnTest(unittest.TestCase):
    """[2]: nothing that is handed in is changed, and what is told is the asker's own."""

    def test_own(self):
        for spots in lists():
            handed = list(spots)
            point = points_of(spots)[-1]
            first = nearest(handed, point, len(spots)), walk(handed, point, len(spots) - 1)
            kept = [list(told) for told in first]
            for told in first:
                told.reverse()
                told.append(99)
            self.assertEqual([nearest(handed, point, len(spots)), walk(handed, point, len(spots) - 1)], kept)
            self.assertTrue(shows_near(handed, point, kept[0]))
            self.assertEqual(handed, spots)


if __name__ == "__main__":
    unittest.main()
