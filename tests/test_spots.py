"""[11], [3]: what is refused wherever a box and spots, or spots alone, are handed in, and in which order."""

import unittest

from nearlands.errors import NoBox, NoSpot, TooMany
from nearlands.far import far_lands, least_ring
from nearlands.fronts import front, passes
from nearlands.lands import land_of, lands
from nearlands.looker import is_far, is_lands, is_weighted
from nearlands.meetings import emptiest, holders, meetings
from nearlands.near import nearest, shows_near, walk
from nearlands.seams import halves, joined, kept, seam
from nearlands.spots import check_box_and_spots, check_spots
from nearlands.takes import takes
from nearlands.trees import least_tree, tree_way
from nearlands.webs import cut_by, reach, rim, rings, ties
from nearlands.weights import weighted
from tests.helper import big, check_refused

BOX = (0, 0, 10, 8)
TWELVE = [(k, k % 5) for k in range(10)] + [(0, 8), (10, 0)]
BIG_BOX = (-big(1), -big(2), big(3), big(4))


def with_box(box, spots):
    """Tell all that take a box and spots, each ready to be called."""
    return (
        lambda: check_box_and_spots(box, spots),
        lambda: lands(box, spots),
        lambda: land_of(box, spots, 0),
        lambda: land_of(box, spots, 99),
        lambda: land_of(box, spots, -1),
        lambda: meetings(box, spots),
        lambda: emptiest(box, spots),
        lambda: holders(box, spots, (1, 1, 1)),
        lambda: holders(box, spots, (-99, 1, 2)),
        lambda: takes(box, spots, (9, 7)),
        lambda: takes(box, spots, (99, 99)),
        lambda: seam(box, spots, [0]),
        lambda: seam(box, spots, []),
        lambda: kept(box, spots, [0]),
        lambda: kept(box, spots, [0, 0]),
        lambda: joined(box, spots, [0], [], []),
        lambda: joined(box, spots, [-1], [], []),
        lambda: cut_by(box, spots, []),
        lambda: far_lands(box, spots),
        lambda: weighted(box, spots, [0] * len(spots)),
        lambda: weighted(box, spots, None),
        lambda: is_lands(box, spots, []),
        lambda: is_far(box, spots, None),
        lambda: is_weighted(box, spots, [0] * len(spots), []),
        lambda: is_weighted(box, spots, None, None),
    )


def alone(spots):
    """Tell all that take spots alone, each ready to be called."""
    return (
        lambda: check_spots(spots),
        lambda: halves(spots),
        lambda: front(spots, (7, 2)),
        lambda: front(spots, (-big(1), 1)),
        lambda: passes(spots),
        lambda: reach(spots, 0, 1),
        lambda: reach(spots, 99, 99),
        lambda: reach(spots, -1, 0),
        lambda: ties(spots),
        lambda: rings(spots),
        lambda: rim(spots),
        lambda: nearest(spots, (1, 1, 1), 1),
        lambda: nearest(spots, (1, 1, 1), 0),
        lambda: walk(spots, (1, 1, 1), 0),
        lambda: walk(spots, (1, 1, 1), -1),
        lambda: shows_near(spots, (1, 1, 1), [0]),
        lambda: shows_near(spots, (1, 1, 1), []),
        lambda: least_ring(spots),
        lambda: least_tree(spots),
        lambda: tree_way(spots, 0, 0),
        lambda: tree_way(spots, -1, 99),
    )


class WithBoxTest(unittest.TestCase):
    def check(self, kind, box, spots, at=None):
        handed = list(spots)
        for call in with_box(box, spots):
            check_refused(self, kind, call, at)
            self.assertEqual(spots, handed)

    def test_taken(self):
        for spots in ([(5, 5)], [(0, 0), (10, 8), (10, 0), (0, 8)], TWELVE, [(0, 3), (10, 3), (4, 0), (4, 8)]):
            check_box_and_spots(BOX, spots)
            self.assertEqual(len(lands(BOX, spots)), len(spots))
        check_box_and_spots(BIG_BOX, [(-big(1), big(4)), (big(3), -big(2)), (0, 0)])

    def test_no_box(self):
        for box in ((0, 0, 0, 8), (0, 0, 10, 0), (10, 0, 0, 8), (0, 8, 10, 0), (5, 5, 5, 5)):
            self.check(NoBox, box, [(5, 5)])

    def test_too_many(self):
        self.check(TooMany, BOX, [])
        self.check(TooMany, BOX, TWELVE + [(9, 7)])
        self.check(TooMany, BOX, TWELVE + [(9, 7), (9, 6)])

    def test_beyond_the_box(self):
        for wrong in ((-1, 4), (11, 4), (4, -1), (4, 9), (99, 99), (-big(1), 0), (0, big(1))):
            self.check(NoSpot, BOX, [wrong], 0)
            self.check(NoSpot, BOX, [(1, 1), (2, 2), wrong], 2)
            self.check(NoSpot, BOX, TWELVE[:11] + [wrong], 11)
        self.check(NoSpot, BIG_BOX, [(0, 0), (big(3) + 1, 0)], 1)
        self.check(NoSpot, BIG_BOX, [(0, 0), (0, -big(2) - 1)], 1)

    def test_alike(self):
        self.check(NoSpot, BOX, [(1, 1), (1, 1)], 1)
        self.check(NoSpot, BOX, [(1, 1), (2, 2), (3, 3), (1, 1)], 3)
        self.check(NoSpot, BOX, TWELVE[:11] + [TWELVE[3]], 11)
        self.check(NoSpot, BIG_BOX, [(big(5) // 100, 1), (0, 0), (big(5) // 100, 1)], 2)

    def test_the_least_number_goes_first(self):
        self.check(NoSpot, BOX, [(1, 1), (1, 1), (99, 0)], 1)
        self.check(NoSpot, BOX, [(1, 1), (99, 0), (1, 1)], 1)
        self.check(NoSpot, BOX, [(1, 1), (2, 2), (2, 2), (1, 1)], 2)
        self.check(NoSpot, BOX, [(99, 0), (99, 0)], 0)
        self.check(NoSpot, BOX, [(1, 1), (-1, 0), (11, 0)], 1)

    def test_several_wrong_things(self):
        no_box = (0, 0, 10, 0)
        self.check(NoBox, no_box, [])
        self.check(NoBox, no_box, TWELVE + [(9, 7)])
        self.check(NoBox, no_box, [(99, 99), (99, 99)])
        self.check(TooMany, BOX, TWELVE + [(99, 99)])
        self.check(TooMany, BOX, [(99, 99)] + TWELVE)
        self.check(TooMany, BOX, [(1, 1)] * 13)


class AloneTest(unittest.TestCase):
    def check(self, kind, spots, at=None):
        handed = list(spots)
        for call in alone(spots):
            check_refused(self, kind, call, at)
            self.assertEqual(spots, handed)

    def test_taken(self):
        for spots in ([(5, 5)], [(-99, 99), (big(1), -big(2))], TWELVE):
            check_spots(spots)
            for call in (passes, ties, rings, rim):
                self.assertIs(type(call(spots)), list)

    def test_too_many(self):
        for spots in ([], TWELVE + [(9, 7)], [(1, 1)] * 13, TWELVE + [TWELVE[0]]):
            self.check(TooMany, spots)

    def test_alike(self):
        for spots, at in (
            ([(1, 1), (1, 1)], 1),
            ([(-9, 1), (1, 1), (2, 2), (1, 1), (-9, 1)], 3),
            ([(0, 0), (big(1), big(2)), (big(1), big(2))], 2),
            (TWELVE[:11] + [TWELVE[0]], 11),
        ):
            self.check(NoSpot, spots, at)


class NumberTest(unittest.TestCase):
    def test_a_number_that_no_spot_has(self):
        for spots in ([(1, 1)], [(1, 1), (2, 2), (3, 1)], TWELVE):
            for number in (len(spots), len(spots) + 1, -1, -len(spots), 99, big(1), -big(1)):
                with self.assertRaises(NoSpot) as told:
                    land_of(BOX, spots, number)
                self.assertEqual(told.exception.at, number)

    def test_the_spots_go_first(self):
        with self.assertRaises(NoSpot) as told:
            land_of(BOX, [(1, 1), (1, 1)], 7)
        self.assertEqual(told.exception.at, 1)


if __name__ == "__main__":
    unittest.main()
