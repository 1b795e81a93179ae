"""[29], [4], [11], [3], [2]: the least tree, and the ways along it."""

import unittest
from itertools import permutations

from nearlands.errors import NoSpot, TooMany
from nearlands.trees import least_tree, tree_way
from nearlands.webs import ties
from tests.helper import CASES, RING, big, check_kind, check_refused, great_case, small_cases

TWELVE = [(k, k % 5) for k in range(10)] + [(0, 8), (10, 0)]
GRID = [(0, 0), (2, 0), (4, 0), (0, 2), (2, 2), (4, 2)]


def lists():
    told = [spots for _, spots in CASES.values()] + [spots for _, spots in small_cases(60)]
    return told + [great_case(box, spots)[1] for name, (box, spots) in CASES.items() if name != "thirty figures"]


def far_apart(spots, one, other):
    (a, b), (c, d) = spots[one], spots[other]
    return (a - c) ** 2 + (b - d) ** 2


def expected_tree(spots):
    """Tell the tree that grows from spot 0: each time by the least pair that leads out of it; then in order."""
    within, pairs = {0}, []
    while len(within) < len(spots):
        leading = [(far_apart(spots, i, j), i, j) for j in range(len(spots)) for i in range(j)
                   if (i in within) != (j in within)]
        _, i, j = min(leading)
        within |= {i, j}
        pairs.append((i, j))
    return sorted(pairs, key=lambda pair: (far_apart(spots, *pair), pair))


def least_greatest(spots):
    """Tell for all two spots the least greatest step of all ways between them."""
    count = len(spots)
    told = [[far_apart(spots, i, j) for j in range(count)] for i in range(count)]
    for by in range(count):
        for i in range(count):
            for j in range(count):
                told[i][j] = min(told[i][j], max(told[i][by], told[by][j]))
    return told


class LeastTreeTest(unittest.TestCase):
    def test_few(self):
        self.assertEqual(least_tree([(5, 5)]), [])
        self.assertEqual(least_tree([(5, 5), (big(1), -big(2))]), [(0, 1)])
        self.assertEqual(least_tree([(0, 0), (5, 0), (2, 0)]), [(0, 2), (1, 2)])
        self.assertEqual(least_tree([(5, 0), (0, 0), (2, 0)]), [(1, 2), (0, 2)])
        self.assertEqual(least_tree([(0, 0), (4, 0), (2, 1)]), [(0, 2), (1, 2)])

    def test_in_the_order_in_which_they_are_taken(self):
        self.assertEqual(least_tree([(0, 0), (9, 0), (3, 0), (4, 0), (20, 0)]), [(2, 3), (0, 2), (1, 3), (1, 4)])

    def test_as_far_ones_by_lesser_pairs(self):
        self.assertEqual(least_tree([(0, 0), (2, 0), (2, 2), (0, 2)]), [(0, 1), (0, 3), (1, 2)])
        self.assertEqual(least_tree([(0, 0), (2, 0), (0, 2), (2, 2)]), [(0, 1), (0, 2), (1, 3)])
        self.assertEqual(least_tree(GRID), [(0, 1), (0, 3), (1, 2), (1, 4), (2, 5)])
        self.assertEqual(least_tree(GRID[::-1]), [(0, 1), (0, 3), (1, 2), (1, 4), (2, 5)])
        # A pair of greater numbers that is less far goes first.
        self.assertEqual(least_tree([(0, 0), (2, 0), (2, 2), (2, 1)]), [(1, 3), (2, 3), (0, 1)])

    def test_line_and_ring(self):
        self.assertEqual(least_tree([(k, 0) for k in range(12)]), [(k, k + 1) for k in range(11)])
        ring = least_tree(RING)
        self.assertEqual(ring, [(1, 2), (4, 5), (7, 8), (10, 11), (0, 1), (0, 11), (2, 3), (3, 4), (5, 6), (6, 7),
                                (8, 9)])

    def test_all_lists(self):
        for spots in lists():
            told = least_tree(spots)
            self.assertIs(type(told), list)
            for pair in told:
                self.assertIs(type(pair), tuple)
                check_kind(self, pair)
            self.assertEqual(told, expected_tree(spots))
            self.assertEqual(len(told), len(spots) - 1)
            self.assertLessEqual(set(told), set(ties(spots)))

    def test_a_last_figure(self):
        one = big(1)
        self.assertEqual(least_tree([(0, 0), (one, 0), (2 * one - 1, 0)]), [(1, 2), (0, 1)])
        self.assertEqual(least_tree([(0, 0), (one, 0), (2 * one, 0)]), [(0, 1), (1, 2)])

    def test_refused(self):
        check_refused(self, TooMany, lambda: least_tree([]))
        check_refused(self, TooMany, lambda: least_tree([(1, 1)] * 13))
        check_refused(self, NoSpot, lambda: least_tree([(1, 1), (2, 2), (1, 1), (2, 2)]), 2)


class TreeWayTest(unittest.TestCase):
    def test_alike(self):
        self.assertEqual(tree_way([(5, 5)], 0, 0), [0])
        for number in range(12):
            self.assertEqual(tree_way(TWELVE, number, number), [number])

    def test_tied(self):
        self.assertEqual(tree_way([(5, 5), (9, 9)], 0, 1), [0, 1])
        self.assertEqual(tree_way([(5, 5), (9, 9)], 1, 0), [1, 0])
        # Tied, but the tree leads round.
        self.assertEqual(tree_way([(0, 0), (2, 0), (2, 2), (0, 2)], 2, 3), [2, 1, 0, 3])

    def test_far_apart(self):
        self.assertEqual(tree_way([(0, 0), (9, 0), (3, 0), (6, 0)], 0, 1), [0, 2, 3, 1])
        self.assertEqual(tree_way([(0, 0), (9, 0), (3, 0), (6, 0)], 1, 0), [1, 3, 2, 0])
        self.assertEqual(tree_way(GRID, 3, 5), [3, 0, 1, 2, 5])
        self.assertEqual(tree_way(GRID, 4, 5), [4, 1, 2, 5])
        self.assertEqual(tree_way(RING, 9, 10), [9, 8, 7, 6, 5, 4, 3, 2, 1, 0, 11, 10])

    def test_all_lists(self):
        for spots in lists():
            tree = set(least_tree(spots))
            least = least_greatest(spots)
            for one in range(len(spots)):
                for other in range(len(spots)):
                    told = tree_way(spots, one, other)
                    self.assertIs(type(told), list)
                    check_kind(self, told)
                    self.assertEqual((told[0], told[-1]), (one, other))
                    self.assertEqual(len(set(told)), len(told))
                    steps = list(zip(told, told[1:]))
                    self.assertLessEqual({(min(step), max(step)) for step in steps}, tree)
                    greatest = max([far_apart(spots, *step) for step in steps], default=0)
                    self.assertEqual(greatest, least[one][other] if one != other else 0)

    def test_no_way_has_a_lesser_greatest_step(self):
        for spots in (GRID, RING[::2], [(0, 0), (4, 0), (2, 1), (7, 3), (1, 6)]):
            for one, other in permutations(range(len(spots)), 2):
                way = tree_way(spots, one, other)
                greatest = max(far_apart(spots, *step) for step in zip(way, way[1:]))
                for count in range(len(spots) - 1):
                    for amid in permutations([at for at in range(len(spots)) if at not in (one, other)], count):
                        by = [one, *amid, other]
                        self.assertGreaterEqual(max(far_apart(spots, *step) for step in zip(by, by[1:])), greatest)

    def test_refused(self):
        spots = [(1, 1), (2, 2), (5, 1)]
        for one, other, at in (
            (3, 0, 3), (0, 3, 3), (-1, 0, -1), (0, -1, -1), (4, 3, 4), (3, 4, 3), (3, 3, 3), (-1, -1, -1), (-1, 9, -1),
            (9, -1, 9), (big(1), 0, big(1)), (0, -big(1), -big(1)), (-3, 0, -3), (2, 99, 99),
        ):
            check_refused(self, NoSpot, lambda: tree_way(spots, one, other), at)
        for one, other in ((0, 0), (9, 9), (-1, 0)):
            check_refused(self, TooMany, lambda: tree_way([], one, other))
            check_refused(self, TooMany, lambda: tree_way(TWELVE + [(9, 7)], one, other))
            check_refused(self, NoSpot, lambda: tree_way([(1, 1), (2, 2), (1, 1)], one, other), 2)


class OwnTest(unittest.TestCase):
    """[2]: nothing that is handed in is changed, and what is told is the asker's own."""

    def test_own(self):
        for _, spots in CASES.values():
            handed = list(spots)
            first = least_tree(handed), tree_way(handed, 0, len(spots) - 1)
            kept = [list(told) for told in first]
            for told in first:
                told.reverse()
                told.append(99)
            self.assertEqual([least_tree(handed), tree_way(handed, 0, len(spots) - 1)], kept)
            self.assertEqual(handed, spots)


if __name__ == "__main__":
    unittest.main()
