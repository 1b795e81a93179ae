"""[17], [18], [4], [11], [2]: the seam between two lots of spots, and the lands of both lots put together."""

import unittest

from nearlands.errors import NoBox, NoLot, NoSpot, TooMany
from nearlands.lands import lands
from nearlands.seams import halves, joined, kept, seam
from tests.helper import (
    CASES, big_26, check_kind, check_point, check_refused, copied, expected_reach, lot_lands, moved, moved_case,
    side_of, small_cases, where,
)

BOX = (0, 0, 10, 8)
TWELVE = [(k, k % 5) for k in range(10)] + [(0, 8), (10, 0)]
FOUR = [(1, 1), (3, 3), (3, 1), (1, 3)]


def outside(spots, lot):
    return [number for number in range(len(spots)) if number not in lot]


def some_lots(spots):
    """Tell lots of the spots: of one, of all but one, halves, and such told in another order."""
    count = len(spots)
    lots = [[0], [count - 1], list(range(1, count)), list(range(count - 1)), list(range(count // 2))]
    lots += [list(range(0, count, 2)), list(range(count - 1, 0, -2))]
    lots += [list(range(count // 3, count))[::-1]]
    return [lot for lot in lots if 0 < len(lot) < count]


def expected_seam(box, spots, lot):
    rows = []
    for one in lot:
        for other in outside(spots, lot):
            ends = expected_reach(spots, one, other, box)
            if ends is not None:
                rows.append((*ends, one, other))
    return sorted(rows, key=lambda row: (where(row[0]), where(row[1])))


class SeamTest(unittest.TestCase):
    def check_seam(self, box, spots, lot):
        """Fail unless seam and kept tell just what [17] says, and joined what [18] says."""
        told = seam(box, spots, lot)
        self.assertIs(type(told), list)
        for row in told:
            self.assertIs(type(row), tuple)
            start, end, one, other = row
            check_point(self, start)
            check_point(self, end)
            check_kind(self, (one, other))
            self.assertEqual(side_of(start, end, (*spots[one], 1)), 1)
            self.assertEqual(side_of(start, end, (*spots[other], 1)), -1)
        self.assertEqual(told, expected_seam(box, spots, lot))
        fields = lands(box, spots)
        self.check_kept(box, spots, lot, told, fields)
        ours, others = lot_lands(box, spots, lot), lot_lands(box, spots, outside(spots, lot))
        self.assertEqual(joined(box, spots, lot, ours, others), fields)

    def check_kept(self, box, spots, lot, told, fields):
        numbers = kept(box, spots, lot)
        self.assertIs(type(numbers), list)
        self.assertEqual(numbers, [number for number in sorted(lot) if number not in [row[2] for row in told]])
        alone = dict(zip(sorted(lot), lot_lands(box, spots, lot)))
        self.assertEqual(numbers, [number for number in sorted(lot) if alone[number] == fields[number]])

    def test_all_cases(self):
        for name, (box, spots) in CASES.items():
            with self.subTest(name):
                for lot in some_lots(spots):
                    self.check_seam(box, spots, lot)

    def test_many_with_small_numbers(self):
        for box, spots in small_cases(40):
            for lot in some_lots(spots)[2:6]:
                self.check_seam(box, spots, lot)

    def test_two(self):
        self.assertEqual(seam((0, 0, 4, 2), [(1, 1), (3, 1)], [0]), [((2, 0, 1), (2, 2, 1), 0, 1)])
        self.assertEqual(seam((0, 0, 4, 2), [(1, 1), (3, 1)], [1]), [((2, 2, 1), (2, 0, 1), 1, 0)])
        self.assertEqual(kept((0, 0, 4, 2), [(1, 1), (3, 1)], [0]), [])

    def test_a_lot_of_one_and_of_all_but_one(self):
        spots = [(2, 0), (0, 2), (-2, 0), (0, -2), (0, 0)]
        self.assertEqual(seam((-3, -3, 3, 3), spots, [4]), [
            ((-1, -1, 1), (1, -1, 1), 4, 3), ((-1, 1, 1), (-1, -1, 1), 4, 2),
            ((1, -1, 1), (1, 1, 1), 4, 0), ((1, 1, 1), (-1, 1, 1), 4, 1),
        ])
        self.assertEqual(seam((-3, -3, 3, 3), spots, [3, 1, 0, 2]), [
            ((-1, -1, 1), (-1, 1, 1), 2, 4), ((-1, 1, 1), (1, 1, 1), 1, 4),
            ((1, -1, 1), (-1, -1, 1), 3, 4), ((1, 1, 1), (1, -1, 1), 0, 4),
        ])

    def test_rising_by_from_and_then_by_to(self):
        # Two edges begin at the middle of the four.
        told = seam((0, 0, 4, 4), [(1, 1), (3, 1), (3, 3), (1, 3)], [2, 0])
        self.assertEqual(told, [
            ((2, 0, 1), (2, 2, 1), 0, 1), ((2, 2, 1), (0, 2, 1), 0, 3),
            ((2, 2, 1), (4, 2, 1), 2, 1), ((2, 4, 1), (2, 2, 1), 2, 3),
        ])

    def test_no_edge_where_lands_touch_in_a_point_alone(self):
        # Spots 0 and 1 lie across the middle of the four from one another.
        told = seam((0, 0, 4, 4), FOUR, [0])
        self.assertEqual(told, [((2, 0, 1), (2, 2, 1), 0, 2), ((2, 2, 1), (0, 2, 1), 0, 3)])
        # Spot 2's land touches that of spot 5, the only one not of the lot, in a point alone.
        self.assertEqual(kept((0, 0, 6, 4), FOUR + [(5, 1), (5, 3)], [4, 0, 2, 3, 1]), [0, 2, 3])

    def test_kept(self):
        box, spots = (0, 0, 20, 2), [(1, 1), (4, 1), (19, 1), (9, 1), (14, 1)]
        self.assertEqual(kept(box, spots, [3, 1, 0]), [0, 1])
        self.assertEqual(kept(box, spots, [4, 2]), [2])
        self.assertEqual(kept(box, spots, [4, 2, 0, 3]), [2, 4])
        self.assertEqual(kept(box, spots, [0]), [])

    def test_the_lot_in_any_order(self):
        for name in ("grid", "twelve", "ring", "sides and corners"):
            box, spots = CASES[name]
            lot = list(range(0, len(spots), 2)) + [1]
            for order in (lot[::-1], sorted(lot), lot[2:] + lot[:2]):
                self.assertEqual(seam(box, spots, order), seam(box, spots, lot))
                self.assertEqual(kept(box, spots, order), kept(box, spots, lot))

    def test_twenty_six_figures(self):
        scale, dx, dy = big_26(1) // 10 ** 4, big_26(2) // 10, -big_26(3) // 10
        for name, (box, spots) in CASES.items():
            if name != "thirty figures" and len(spots) > 1:
                lot = halves(spots)[0]
                great_box, great_spots = moved_case(box, spots, scale, dx, dy)
                told = seam(great_box, great_spots, lot)
                self.assertEqual(told, [
                    (moved(row[0], scale, dx, dy), moved(row[1], scale, dx, dy), *row[2:])
                    for row in seam(box, spots, lot)
                ])
                self.check_seam(great_box, great_spots, lot)

    def test_twenty_six_figures_of_no_small_scale(self):
        box = (-big_26(900), -big_26(901), big_26(902), big_26(903))
        spots = [((-1) ** k * (big_26(k) // 10), (-1) ** (k // 2) * (big_26(k + 50) // 10)) for k in range(12)]
        for lot in some_lots(spots):
            self.check_seam(box, spots, lot)


class HalvesTest(unittest.TestCase):
    def test_two_and_three(self):
        self.assertEqual(halves([(1, 1), (3, 1)]), ([0], [1]))
        self.assertEqual(halves([(3, 1), (1, 1)]), ([1], [0]))
        self.assertEqual(halves([(3, 1), (1, 1), (2, 9)]), ([1], [0, 2]))

    def test_the_same_x(self):
        self.assertEqual(halves([(1, 4), (1, 3), (1, 2), (1, 1)]), ([2, 3], [0, 1]))
        self.assertEqual(halves([(1, -4), (1, 3), (1, -2), (0, 9), (1, 1)]), ([0, 3], [1, 2, 4]))

    def test_twelve(self):
        spots = [(12 - k, k * k) for k in range(12)]
        self.assertEqual(halves(spots), ([6, 7, 8, 9, 10, 11], [0, 1, 2, 3, 4, 5]))
        self.assertEqual(halves(spots[:11]), ([6, 7, 8, 9, 10], [0, 1, 2, 3, 4, 5]))

    def test_spots_need_no_box(self):
        self.assertEqual(halves([(big_26(1), 0), (-big_26(2), 5)]), ([1], [0]))

    def test_all_cases(self):
        for box, spots in list(CASES.values()) + list(small_cases(40)):
            if len(spots) > 1:
                told = halves(spots)
                self.assertIs(type(told), tuple)
                one, other = told
                self.assertEqual((type(one), type(other)), (list, list))
                self.assertEqual(one, sorted(one))
                self.assertEqual(other, sorted(other))
                self.assertEqual(sorted(one + other), list(range(len(spots))))
                self.assertEqual(len(one), len(spots) // 2)
                self.assertLess(max(spots[number] for number in one), min(spots[number] for number in other))

    def test_the_seam_of_the_first_goes_nowhere_down(self):
        for box, spots in list(CASES.values()) + list(small_cases(60)):
            if len(spots) > 1:
                told = seam(box, spots, halves(spots)[0])
                self.assertTrue(told)
                for start, end, _, _ in told:
                    (a, b), (c, d) = where(start), where(end)
                    self.assertTrue(d > b or d == b and c < a, (start, end))


class JoinedTest(unittest.TestCase):
    def test_two(self):
        whole = ([(0, 0, 1), (4, 0, 1), (4, 2, 1), (0, 2, 1)], [-1, -2, -3, -4])
        self.assertEqual(joined((0, 0, 4, 2), [(1, 1), (3, 1)], [1], [copied(whole)], [copied(whole)]), [
            ([(0, 0, 1), (2, 0, 1), (2, 2, 1), (0, 2, 1)], [-1, 1, -3, -4]),
            ([(2, 0, 1), (4, 0, 1), (4, 2, 1), (2, 2, 1)], [-1, -2, -3, 0]),
        ])

    def test_whatever_the_order_of_the_lot(self):
        for name in ("grid", "twelve", "ring with its middle"):
            box, spots = CASES[name]
            lot = [5, 0, 7, 2, 3]
            ours, others = lot_lands(box, spots, lot), lot_lands(box, spots, outside(spots, lot))
            for order in (lot, lot[::-1], sorted(lot)):
                told = joined(box, spots, order, ours, others)
                self.assertIs(type(told), list)
                self.assertEqual(told, lands(box, spots))

    def test_what_does_not_touch_the_seam_stays(self):
        box, spots = CASES["level line"]
        lot = halves(spots)[0]
        ours = dict(zip(sorted(lot), lot_lands(box, spots, lot)))
        told = lands(box, spots)
        for number in kept(box, spots, lot):
            self.assertEqual(told[number], ours[number])


class RefusedTest(unittest.TestCase):
    def check(self, kind, box, spots, lot, at=None):
        handed = list(spots), list(lot)
        for call in (
            lambda: seam(box, spots, lot), lambda: kept(box, spots, lot), lambda: joined(box, spots, lot, [], []),
        ):
            check_refused(self, kind, call, at)
            self.assertEqual((spots, lot), handed)

    def test_no_lot(self):
        for spots in (FOUR, TWELVE, FOUR[:2]):
            count = len(spots)
            whole = list(range(count))
            for lot in (
                [], whole, whole[::-1], [0, 0], [count], [0, count], [-1], [0, -1], [-count], whole + [count],
                [0] * count, [1] * (count + 1), whole[:-1] + [0], whole[:-1] + [count], [big_26(1)], [-big_26(1), 0],
            ):
                self.check(NoLot, BOX, spots, lot)

    def test_one_spot_has_no_lot(self):
        for lot in ([], [0], [1], [-1], [0, 0]):
            self.check(NoLot, BOX, [(1, 1)], lot)

    def test_behind_what_is_told_of_box_and_spots(self):
        for lot in ([], [0], [0, 0], [99], [-1]):
            self.check(NoBox, (0, 0, 10, 0), [], lot)
            self.check(NoBox, (0, 0, 10, 0), FOUR, lot)
            self.check(TooMany, BOX, [], lot)
            self.check(TooMany, BOX, TWELVE + [(9, 7)], lot)
            self.check(NoSpot, BOX, FOUR + [(11, 1)], lot, 4)
            self.check(NoSpot, BOX, [(1, 1), (2, 2), (1, 1)], lot, 2)

    def test_halves(self):
        check_refused(self, NoLot, lambda: halves([(1, 1)]))
        check_refused(self, NoLot, lambda: halves([(-big_26(1), big_26(2))]))
        check_refused(self, TooMany, lambda: halves([]))
        check_refused(self, TooMany, lambda: halves(TWELVE + [(9, 7)]))
        check_refused(self, NoSpot, lambda: halves([(1, 1), (1, 1)]), 1)


class OwnTest(unittest.TestCase):
    """[2]: nothing that is handed in is changed, and what is told is the asker's own."""

    def test_own(self):
        for box, spots in CASES.values():
            for lot in some_lots(spots):
                self.check_own(box, spots, lot)

    def check_own(self, box, spots, lot):
        rest = outside(spots, lot)
        ours, others = lot_lands(box, spots, lot), lot_lands(box, spots, rest)

        def answers():
            handed = list(spots), list(lot), [copied(one) for one in ours], [copied(one) for one in others]
            told = (
                seam(box, handed[0], handed[1]), kept(box, handed[0], handed[1]), halves(handed[0]),
                joined(box, *handed),
            )
            self.assertEqual(handed, (spots, lot, ours, others))
            # Nothing told shares a list with what was handed in.
            theirs = {id(part) for field in handed[2] + handed[3] for part in field}
            self.assertFalse(theirs & {id(part) for field in told[3] for part in field})
            return told

        first = answers()
        edges, numbers, (half, rest_half), fields = first
        expected = list(edges), list(numbers), (list(half), list(rest_half)), [copied(field) for field in fields]
        for field in fields:
            field[0].clear()
            field[1].append(9)
        for told in (edges, numbers, half, rest_half, fields):
            told.clear()
        self.assertEqual(answers(), expected)


if __name__ == "__main__":
    unittest.main()
