"""[27], [4], [11], [3], [2]: the measure of a point, and the lands of spots with weights."""

import unittest
from fractions import Fraction

from nearlands.errors import NoBox, NoSpot, NoWeights, TooMany
from nearlands.fields import box_field
from nearlands.lands import lands
from nearlands.weights import measure, weighted
from tests.helper import (
    CASES, GREAT, big, check_fraction, check_parting, check_refused, copied_fields, expected_parting, great_case,
    has_point, moved_case, moved_field, sides, small, small_cases, some_points, spoil, way_square,
)

TWELVE = [(k, k % 5) for k in range(10)] + [(0, 8), (10, 0)]
BOX = (0, 0, 8, 2)
TWO = [(1, 1), (7, 1)]


def some_weights(spots, k, most):
    return [small(31 * k + 7 * number, -most, most) for number in range(len(spots))]


def line_cases():
    """Tell boxes, spots on a line and weights, of which often several lines of like measure are one."""
    for k in range(80):
        places = sorted({small(5 * k + at, 0, 12) for at in range(5)})
        order = sorted(places, key=lambda place: small(place + 11 * k, 0, 999))
        # All measure the same, 40, at a place t, but for some that measure a little less or more.
        t = small(k, 0, 12)
        weights = [(place - t) ** 2 - 40 + (small(place + 3 * k, -1, 1) if place % 3 == 0 else 0) for place in order]
        yield (0, 0, 12, 3), [(place, 1) for place in order], weights
        yield (0, 0, 3, 12), [(3, place) for place in order], weights
        yield (0, 0, 12, 12), [(place, 12 - place) for place in order], [2 * weight for weight in weights]


class MeasureTest(unittest.TestCase):
    def test_ordinary(self):
        self.assertEqual(measure((0, 0, 1), (3, 4), 0), (25, 1))
        self.assertEqual(measure((0, 0, 1), (3, 4), 5), (20, 1))
        self.assertEqual(measure((0, 0, 1), (3, 4), -5), (30, 1))
        self.assertEqual(measure((0, 0, 1), (3, 4), 25), (0, 1))
        self.assertEqual(measure((3, 4, 1), (3, 4), 25), (-25, 1))
        self.assertEqual(measure((3, 4, 1), (3, 4), 0), (0, 1))

    def test_lowest_terms(self):
        self.assertEqual(measure((1, 1, 2), (0, 0), 0), (1, 2))
        self.assertEqual(measure((1, 1, 2), (0, 0), 1), (-1, 2))
        self.assertEqual(measure((1, 0, 2), (0, 0), 7), (-27, 4))
        self.assertEqual(measure((1, 0, 2), (0, 0), -7), (29, 4))
        self.assertEqual(measure((-5, 7, 3), (2, -1), 4), (185, 9))
        self.assertEqual(measure((3, 3, 2), (0, 0), 4), (1, 2))

    def test_many(self):
        for k in range(200):
            point = (small(k, -50, 50), small(k + 300, -50, 50), (1, 1, 2, 3, 4, 5, 6, 12)[k % 8])
            spot, weight = (small(k + 600, -9, 9), small(k + 700, -9, 9)), small(k + 800, -99, 99)
            told = measure(point, spot, weight)
            check_fraction(self, told)
            self.assertEqual(Fraction(*told), way_square(point, spot) - weight)

    def test_great(self):
        for k in range(20):
            point = (big(k) * big(k + 1), -big(k + 2) * big(k + 3), big(k + 4) + 1)
            spot, weight = (big(k + 5), -big(k + 6)), (-1) ** k * big(k + 7)
            told = measure(point, spot, weight)
            check_fraction(self, told)
            self.assertEqual(Fraction(*told), way_square(point, spot) - weight)
        self.assertEqual(measure((big(1), 0, 1), (big(1) - 1, 0), big(2)), (1 - big(2), 1))


class WeightedTest(unittest.TestCase):
    def check(self, box, spots, weights):
        told = weighted(box, spots, weights)
        check_parting(self, box, told)
        self.assertEqual(told, expected_parting(box, spots, weights))
        # Each edge between two fields is an edge of both, or of a part of it: it is called by one that has a field.
        for number, field in enumerate(told):
            for start, end, called in sides(field) if field is not None else []:
                if called >= 0:
                    self.assertIsNotNone(told[called])
                    self.assertIn(number, told[called][1])
        return told

    def test_two(self):
        self.assertEqual(weighted(BOX, TWO, [0, 0]), lands(BOX, TWO))
        self.assertEqual(weighted(BOX, TWO, [12, 0]), [
            ([(0, 0, 1), (5, 0, 1), (5, 2, 1), (0, 2, 1)], [-1, 1, -3, -4]),
            ([(5, 0, 1), (8, 0, 1), (8, 2, 1), (5, 2, 1)], [-1, -2, -3, 0]),
        ])
        self.assertEqual(weighted(BOX, TWO, [-4, 1])[0][0], [(0, 0, 1), (43, 0, 12), (43, 24, 12), (0, 2, 1)])

    def test_one(self):
        for weight in (0, 7, -7, big(1), -big(1)):
            self.assertEqual(weighted(BOX, [(3, 1)], [weight]), [box_field(BOX)])

    def test_like_weights_are_the_lands(self):
        for box, spots in CASES.values():
            for weight in (0, 5, -5, big(3), -big(3)):
                self.assertEqual(weighted(box, spots, [weight] * len(spots)), lands(box, spots))

    def test_a_number_put_to_all(self):
        for k, (box, spots) in enumerate(CASES.values()):
            weights = some_weights(spots, k, 50)
            expected = weighted(box, spots, weights)
            for more in (1, -1, 1000, big(4) // 10, -big(4) // 10):
                self.assertEqual(weighted(box, spots, [weight + more for weight in weights]), expected)

    def test_a_weight_so_great_that_all_others_have_none(self):
        for name, (box, spots) in CASES.items():
            if name != "thirty figures":
                for number in range(len(spots)):
                    weights = [0] * len(spots)
                    weights[number] = 10 ** 9
                    expected = [None] * len(spots)
                    expected[number] = box_field(box)
                    self.assertEqual(weighted(box, spots, weights), expected)

    def test_a_weight_so_small_that_its_spot_has_none(self):
        for name, (box, spots) in CASES.items():
            if name != "thirty figures" and len(spots) > 1:
                for number in range(len(spots)):
                    weights = [0] * len(spots)
                    weights[number] = -10 ** 9
                    told = self.check(box, spots, weights)
                    self.assertIsNone(told[number])
                    others = [at for at in range(len(spots)) if at != number]
                    rest = lands(box, [spots[at] for at in others])
                    for at, (corners, edges) in zip(others, rest):
                        self.assertEqual(told[at], (corners, [others[edge] if edge >= 0 else edge for edge in edges]))

    def test_a_field_that_does_not_hold_its_spot(self):
        # The line of like measure is at 8.
        told = self.check((0, 0, 20, 2), [(3, 1), (7, 1)], [24, 0])
        self.assertEqual(told[1], ([(8, 0, 1), (20, 0, 1), (20, 2, 1), (8, 2, 1)], [-1, -2, -3, 0]))
        self.assertFalse(has_point(told[1], (7, 1, 1)))
        # Neither of two holds its spot where the third one is heavy.
        told = self.check((0, 0, 30, 30), [(15, 15), (13, 15), (15, 17)], [40, 0, 0])
        self.assertFalse(has_point(told[1], (13, 15, 1)) or has_point(told[2], (15, 17, 1)))

    def test_the_middle_one_of_three_has_just_a_line(self):
        # All three measure the same at x = 4: the middle one has a line alone, and the outer ones meet there.
        for order in ((0, 1, 2), (0, 2, 1), (1, 0, 2), (1, 2, 0), (2, 0, 1), (2, 1, 0)):
            told = self.check(BOX, [[(1, 1), (4, 1), (7, 1)][at] for at in order], [[9, 0, 9][at] for at in order])
            left, amid, right = order.index(0), order.index(1), order.index(2)
            self.assertIsNone(told[amid])
            self.assertEqual(told[left], ([(0, 0, 1), (4, 0, 1), (4, 2, 1), (0, 2, 1)], [-1, right, -3, -4]))
            self.assertEqual(told[right], ([(4, 0, 1), (8, 0, 1), (8, 2, 1), (4, 2, 1)], [-1, -2, -3, left]))

    def test_two_lines_of_like_measure_on_one_side_of_a_spot(self):
        # 1, 2 and 3 all have their line with 0 at x = 6, farther off than each of them; 4 lies beside the line.
        spots = [(1, 1), (3, 1), (5, 1), (4, 1), (1, 9)]
        for order in ([0, 1, 2, 3, 4], [4, 3, 2, 1, 0], [2, 0, 3, 1, 4], [1, 3, 0, 4, 2]):
            weights = [25, 9, 1, 4, 0]
            told = self.check((0, 0, 12, 10), [spots[at] for at in order], [weights[at] for at in order])
            self.assertIsNone(told[order.index(1)])
            self.assertIsNone(told[order.index(3)])
            self.assertIn(order.index(2), told[order.index(0)][1])
            self.assertIn(order.index(0), told[order.index(2)][1])

    def test_a_line_of_like_measure_along_a_side_of_the_box(self):
        for at, found in ((8, [box_field(BOX), None]), (0, [None, box_field(BOX)])):
            weights = [(1 - at) ** 2, (7 - at) ** 2]
            self.assertEqual(measure((at, 1, 1), TWO[0], weights[0]), measure((at, 1, 1), TWO[1], weights[1]))
            self.assertEqual(self.check(BOX, TWO, weights), found)
            self.assertEqual(self.check(BOX, TWO[::-1], weights[::-1]), found[::-1])
        # Upright, and with a third spot that shares the box.
        spots, weights = [(1, 1), (1, 5), (5, 1)], [49, 9, 49]
        told = self.check((0, 0, 6, 8), spots, weights)
        self.assertIsNone(told[1])
        self.assertEqual(told[0], ([(0, 0, 1), (3, 0, 1), (3, 8, 1), (0, 8, 1)], [-1, 2, -3, -4]))

    def test_lines(self):
        coinciding = 0
        for box, spots, weights in line_cases():
            told = self.check(box, spots, weights)
            coinciding += sum(edges_of_several(field, number, spots, weights) for number, field in enumerate(told))
        self.assertGreater(coinciding, 100)

    def test_all_cases(self):
        for name, (box, spots) in list(CASES.items()) + list(enumerate(small_cases(60))):
            for k, most in enumerate((3, 20, 200, 3000)):
                weights = some_weights(spots, k, most)
                with self.subTest(name, weights=weights):
                    told = self.check(box, spots, weights)
                    if name != "thirty figures" and k < 2:
                        # The weights grow with the square of the scale, which may have fewer figures so.
                        scale, dx, dy = 10 ** 13 + 37, GREAT[1], GREAT[2]
                        great = moved_case(box, spots, scale, dx, dy)
                        far = self.check(*great, [weight * scale ** 2 for weight in weights])
                        self.assertEqual(far, [moved_field(field, scale, dx, dy) for field in told])

    def test_thirty_figures(self):
        for name, (box, spots) in CASES.items():
            great = CASES[name] if name == "thirty figures" else great_case(box, spots)
            self.check(*great, [(-1) ** (k // 2) * big(k) for k in range(len(spots))])
        box, spots = (-10 ** 15, -10 ** 15, 10 ** 15, 10 ** 15), [(-5, 3), (7, 10 ** 15), (-10 ** 15, 0), (9, 9)]
        for k in range(10):
            self.check(box, spots, [(-1) ** (at + k // 3) * big(at + k) for at in range(4)])

    def test_a_point_lies_in_the_fields_of_least_measure(self):
        for k, (box, spots) in enumerate(CASES.values()):
            weights = some_weights(spots, k, 40)
            told = weighted(box, spots, weights)
            for point in some_points(box, [field for field in told if field is not None])[::2]:
                measures = [way_square(point, spot) - weight for spot, weight in zip(spots, weights)]
                for measured, field in zip(measures, told):
                    if field is not None:
                        self.assertEqual(has_point(field, point), measured == min(measures))


def edges_of_several(field, number, spots, weights):
    """Tell how many edges of a field lie on the lines of like measure of its spot and two others or more."""
    count = 0
    for start, end, called in sides(field) if field is not None else []:
        like = [at for at in range(len(spots)) if at != number and all(
            way_square(point, spots[at]) - weights[at] == way_square(point, spots[number]) - weights[number]
            for point in (start, end)
        )]
        count += called >= 0 and len(like) > 1
    return count


class RefusedTest(unittest.TestCase):
    NO_WEIGHTS = (
        [], [1], [1, 2, 3], [1, 2, 3, 4], (1, 2), (), "12", "", None, 0, 2, True, [True, 1], [1, False], [1, None],
        ["1", 2], [1, "2"], [1, [2]], [[1], 2], [1, (2,)], [(), 2], [None, None], [1, 2, None], [True, False],
        [[1, 2]], ([1, 2],), [1, 2, True],
    )

    def test_no_weights(self):
        for weights in self.NO_WEIGHTS:
            with self.subTest(weights):
                check_refused(self, NoWeights, lambda: weighted(BOX, TWO, weights))
        for count in (0, 11, 13):
            check_refused(self, NoWeights, lambda: weighted((0, 0, 10, 8), TWELVE, [1] * count))
        check_refused(self, NoWeights, lambda: weighted((0, 0, 10, 8), TWELVE, [1] * 11 + [True]))
        weighted((0, 0, 10, 8), TWELVE, [1] * 12)

    def test_others_go_first(self):
        for weights in self.NO_WEIGHTS + ([1, 2],):
            check_refused(self, NoBox, lambda: weighted((0, 0, 8, 0), TWO, weights))
            check_refused(self, NoBox, lambda: weighted((0, 0, 8, 0), [], weights))
            check_refused(self, TooMany, lambda: weighted(BOX, [], weights))
            check_refused(self, TooMany, lambda: weighted(BOX, [(1, 1)] * 13, weights))
            check_refused(self, NoSpot, lambda: weighted(BOX, [(1, 1), (9, 1)], weights), 1)
            check_refused(self, NoSpot, lambda: weighted(BOX, [(1, 1), (1, 1)], weights), 1)
            check_refused(self, NoSpot, lambda: weighted(BOX, [(-1, 1), (1, 1)], weights), 0)


class OwnTest(unittest.TestCase):
    """[2]: nothing that is handed in is changed, and what is told is the asker's own."""

    def test_own(self):
        for k, (box, spots) in enumerate(CASES.values()):
            weights = some_weights(spots, k, 30)
            handed, weighing = list(spots), list(weights)
            fields = weighted(box, handed, weighing)
            kept = copied_fields(fields)
            spoil(fields)
            self.assertEqual(weighted(box, handed, weighing), kept)
            self.assertEqual((handed, weighing), (spots, weights))


if __name__ == "__main__":
    unittest.main()
