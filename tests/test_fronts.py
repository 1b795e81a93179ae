"""[19], [20], [4], [11], [2]: the front of a level line that goes up over spots, and what the line passes."""

import unittest
from fractions import Fraction
from itertools import combinations, product
from math import isqrt

from nearlands.fronts import front, higher, passes
from nearlands.roots import compare_roots
from nearlands.webs import rings, ties
from tests.helper import CASES, RING, big, big_26, check_kind, moved_case, sign_of, small_cases

# So near the tests work out roots; what differs at all in them differs by much more.
CLOSE = 10 ** 300
FAR = Fraction(1, 10 ** 250)

LISTS = {name: spots for name, (box, spots) in CASES.items() if name != "thirty figures"}
LISTS["square"] = [(0, 0), (2, 0), (2, 2), (0, 2)]
LISTS["one high, many low"] = [(0, 9), (-8, 0), (-4, 0), (4, 0), (8, 0), (0, 0), (1, -5)]
LISTS["above one another"] = [(3, 0), (3, 5), (3, 2), (3, 9)]
LISTS["twenty-six figures"] = [
    ((-1) ** k * (big_26(k) // 10), (-1) ** (k // 2) * (big_26(k + 50) // 10)) for k in range(12)
]


def all_lists():
    return list(LISTS.items()) + [(f"small {k}", spots) for k, (box, spots) in enumerate(small_cases(30))]


def fraction(number):
    number = Fraction(number)
    return (number.numerator, number.denominator)


def near_root(number):
    """Tell the root of a fraction, but for less than one by CLOSE."""
    number = Fraction(number)
    return Fraction(isqrt(number.numerator * number.denominator * CLOSE ** 2), number.denominator * CLOSE)


def curve(spot, height):
    """Tell the y of the spot's point, as 2 y is of the form a x x + b x + c: the tuple (a, b, c)."""
    x, y = spot
    below = height - y
    return -1 / below, 2 * x / below, height + y - x * x / below


def on_curve(spot, height, x):
    a, b, c = curve(spot, height)
    return a * x * x + b * x + c


def near_crossings(one, other, height):
    a, b, c = (p - q for p, q in zip(curve(one, height), curve(other, height)))
    if a == 0:
        return [-c / b] if b != 0 else []
    root = near_root(b * b - 4 * a * c)
    return [(-b - root) / (2 * a), (-b + root) / (2 * a)]


def expected_front(spots, height):
    """Tell the front by looking, between any two places where curves cross, which one is highest."""
    height = Fraction(*height)
    lower = [number for number, spot in enumerate(spots) if spot[1] < height]
    places = [place for one, other in combinations(lower, 2)
              for place in near_crossings(spots[one], spots[other], height)]
    places = sorted(places) or [Fraction(0)]
    looked_at = [places[0] - 1] + [(p + q) / 2 for p, q in zip(places, places[1:]) if q - p > FAR] + [places[-1] + 1]
    told = []
    for x in looked_at:
        highest = max(lower, key=lambda number: on_curve(spots[number], height, x), default=None)
        if highest is not None and told[-1:] != [highest]:
            told.append(highest)
    return told


def some_heights(spots):
    """Tell heights: those of spots, close below and above them, between them, tops of rings, and far up."""
    ys = sorted({Fraction(y) for x, y in spots})
    span = ys[-1] - ys[0] + 1
    heights = {ys[0] - 1, ys[-1] + span * 1000}
    for y in ys:
        heights |= {y, y + Fraction(1, 1000), y - Fraction(1, 1000), y + span / 7, y + span / 2}
    heights |= {(p + q) / 2 for p, q in zip(ys, ys[1:])}
    for centre, way, _ in rings(spots):
        top = Fraction(centre[1], centre[2]) + near_root(Fraction(*way))
        # Where the root is a fraction of few figures it is told just so.
        heights |= {top.limit_denominator(1000), Fraction(int(top * 10 ** 30), 10 ** 30)}
    return sorted(heights)


def near_height(height):
    """Tell a height of two fractions, but for less than one by CLOSE."""
    one, other = height
    return Fraction(*one) + near_root(Fraction(*other))


class FrontTest(unittest.TestCase):
    def check_front(self, spots, height):
        told = front(spots, height)
        self.assertIs(type(told), list)
        check_kind(self, told)
        self.assertEqual(told, expected_front(spots, height), (spots, height))
        for one, other in zip(told, told[1:]):
            self.assertNotEqual(one, other)
        return told

    def test_no_spot_lower(self):
        self.assertEqual(front([(0, 0)], (-1, 1)), [])
        self.assertEqual(front([(0, 0)], (0, 1)), [])
        self.assertEqual(front([(0, 0), (5, 3), (9, 1)], (-1, 9)), [])

    def test_one(self):
        self.assertEqual(front([(0, 0)], (1, 9)), [0])
        self.assertEqual(front([(5, 3), (0, 0)], (3, 1)), [1])
        self.assertEqual(front([(5, big_26(1)), (0, 0)], (big_26(1), 1)), [1])

    def test_the_same_height(self):
        self.assertEqual(front([(5, 0), (0, 0), (9, 0)], (1, 100)), [1, 0, 2])
        self.assertEqual(front([(5, 0), (0, 0), (9, 0)], (100, 1)), [1, 0, 2])
        self.assertEqual(front([(5, 0), (0, 0), (9, 0)], (0, 1)), [])

    def test_a_spot_at_the_height_is_not_lower(self):
        self.assertEqual(front([(0, 0), (0, 4)], (4, 1)), [0])
        self.assertEqual(front([(0, 0), (0, 4)], (4 * 10 ** 20 + 1, 10 ** 20)), [0, 1, 0])
        self.assertEqual(front([(0, 0), (9, 4), (3, 3)], (4, 1)), [0, 2, 0])

    def test_several_times(self):
        self.assertEqual(front([(0, 0), (0, 4)], (5, 1)), [0, 1, 0])
        self.assertEqual(front([(0, 0), (-5, 4), (5, 4)], (9, 2)), [0, 1, 0, 2, 0])
        self.assertEqual(front([(0, 0), (-5, 4), (5, 4)], (1000, 1)), [0, 1, 2, 0])

    def test_above_one_another(self):
        self.assertEqual(front([(3, 0), (3, 5), (3, 2)], (6, 1)), [0, 2, 1, 2, 0])
        self.assertEqual(front([(3, 0), (3, 5), (3, 2)], (5, 1)), [0, 2, 0])

    def test_three_that_meet_in_a_point(self):
        # At the height 5 the line touches the ring round (0, 0): there spot 1's arc has no stretch any more.
        spots = [(-4, 3), (0, -5), (4, 3)]
        self.assertEqual(front(spots, (49, 10)), [1, 0, 1, 2, 1])
        self.assertEqual(front(spots, (5, 1)), [1, 0, 2, 1])
        self.assertEqual(front(spots, (51, 10)), [1, 0, 2, 1])
        # So too with a spot at the top, and with many on the ring.
        self.assertEqual(front(spots + [(0, 5)], (5, 1)), [1, 0, 2, 1])
        self.assertEqual(front(spots + [(0, 5)], (51, 10)), [1, 0, 3, 2, 1])
        self.check_front(RING, (5, 1))
        self.check_front(RING, (4999, 1000))
        self.check_front(RING, (5001, 1000))

    def test_three_that_meet_where_the_top_has_a_root(self):
        # The ring round (1, 1) has its top at 1 and the root of 2.
        spots = [(0, 0), (2, 0), (0, 2), (2, 2)]
        self.assertEqual(front(spots, (241, 100)), [0, 2, 0, 1, 3, 1])
        self.assertEqual(front(spots, (242, 100)), [0, 2, 3, 1])

    def test_heights_that_are_fractions(self):
        spots = [(0, 0), (3, 1), (7, 0)]
        for top, bottom in ((1, 2), (3, 2), (10 ** 25 + 1, 10 ** 25), (2 * 10 ** 25 + 1, 3), (7, 3)):
            self.check_front(spots, (top, bottom))
        self.assertEqual(front(spots, (1, 2)), [0, 2])
        self.assertEqual(front(spots, (10 ** 25 + 1, 10 ** 25)), [0, 1, 0, 2])

    def test_all_lists(self):
        for name, spots in all_lists():
            with self.subTest(name):
                heights = some_heights(spots)
                for height in heights if len(spots) < 8 else heights[::4]:
                    self.check_front(spots, fraction(height))

    def test_neighbours_are_tied_where_the_height_is_no_spots(self):
        for name, spots in all_lists():
            with self.subTest(name):
                tied = ties(spots)
                for height in some_heights(spots):
                    if height not in [y for x, y in spots]:
                        told = front(spots, fraction(height))
                        for one, other in zip(told, told[1:]):
                            self.assertIn((min(one, other), max(one, other)), tied)

    def test_twenty_six_figures(self):
        scale, dx, dy = big_26(1) // 10 ** 4, big_26(2) // 10, -big_26(3) // 10
        for name, spots in LISTS.items():
            if name != "twenty-six figures":
                far = moved_case((0, 0, 1, 1), spots, scale, dx, dy)[1]
                for height in some_heights(spots)[::3]:
                    self.assertEqual(front(far, fraction(height * scale + dy)), front(spots, fraction(height)))

    def test_far_up_all_of_the_rim_has_arcs(self):
        self.assertEqual(front(RING, (10 ** 9, 1)), [9, 8, 7, 6, 5, 4, 3, 2, 1, 0, 11, 10, 9])
        self.assertEqual(front(LISTS["square"], (10 ** 9, 1)), [0, 3, 2, 1])


class HigherTest(unittest.TestCase):
    def check_higher(self, one, other, expected):
        told = higher(one, other)
        check_kind(self, (told,))
        self.assertEqual(told, expected)
        self.assertEqual(higher(other, one), -expected)
        self.assertEqual(higher(one, one), 0)

    def test_without_roots(self):
        self.check_higher(((1, 1), (0, 1)), ((0, 1), (0, 1)), 1)
        self.check_higher(((1, 3), (0, 1)), ((1, 2), (0, 1)), -1)
        self.check_higher(((-1, 3), (0, 1)), ((-1, 2), (0, 1)), 1)

    def test_one_root(self):
        self.check_higher(((0, 1), (2, 1)), ((1, 1), (0, 1)), 1)
        self.check_higher(((0, 1), (2, 1)), ((3, 2), (0, 1)), -1)
        self.check_higher(((-2, 1), (2, 1)), ((0, 1), (0, 1)), -1)
        self.check_higher(((-1, 1), (2, 1)), ((0, 1), (0, 1)), 1)
        self.check_higher(((-7, 5), (2, 1)), ((0, 1), (0, 1)), 1)

    def test_equal_ones_that_are_told_otherwise(self):
        self.check_higher(((0, 1), (4, 1)), ((2, 1), (0, 1)), 0)
        self.check_higher(((0, 1), (4, 9)), ((2, 3), (0, 1)), 0)
        self.check_higher(((-1, 2), (25, 4)), ((2, 1), (0, 1)), 0)
        self.check_higher(((-1, 2), (25, 4)), ((1, 1), (1, 1)), 0)
        self.check_higher(((1, 3), (9, 16)), ((5, 6), (1, 16)), 0)
        self.check_higher(((-2, 1), (4, 1)), ((0, 1), (0, 1)), 0)
        self.check_higher(((3, 7), (2, 5)), ((3, 7), (2, 5)), 0)

    def test_two_roots(self):
        self.check_higher(((0, 1), (3, 1)), ((0, 1), (2, 1)), 1)
        self.check_higher(((0, 1), (2, 1)), ((-1, 1), (6, 1)), -1)
        self.check_higher(((0, 1), (2, 1)), ((-11, 10), (6, 1)), 1)
        self.check_higher(((1, 2), (1, 2)), ((0, 1), (3, 2)), -1)
        self.check_higher(((1, 1), (2, 1)), ((-1, 1), (12, 1)), -1)
        # The root of 8 is twice that of 2, and so on.
        self.check_higher(((0, 1), (8, 1)), ((1, 1), (2, 1)), 1)
        self.check_higher(((0, 1), (8, 1)), ((3, 2), (2, 1)), -1)

    def test_all_small_ones(self):
        firsts = [(0, 1), (1, 1), (-1, 1), (2, 1), (-2, 1), (1, 2), (-3, 2), (5, 3)]
        seconds = [(0, 1), (1, 1), (2, 1), (4, 1), (1, 4), (9, 4), (1, 2), (8, 9), (3, 1)]
        heights = list(product(firsts, seconds))
        for one, other in product(heights, repeat=2):
            apart = near_height(one) - near_height(other)
            self.assertEqual(higher(one, other), 0 if abs(apart) < FAR else sign_of(apart), (one, other))

    def test_fifty_figures(self):
        for k in range(60):
            top, other = big(k) * big(k + 1) // 10 ** 10, big(k + 2) * big(k + 3) // 10 ** 10
            self.assertLessEqual(len(str(top)), 50)
            one = (fraction(Fraction(-top, other)), fraction(Fraction(big(k + 4), big(k + 5))))
            two = (fraction(Fraction(-big(k + 6), big(k + 7))), fraction(Fraction(other, top)))
            self.check_higher(one, two, sign_of(near_height(one) - near_height(two)))

    def test_fifty_figures_that_differ_by_one_or_not_at_all(self):
        number = 10 ** 24 + 7
        whole = number * number
        self.check_higher(((0, 1), (whole, 1)), ((number, 1), (0, 1)), 0)
        self.check_higher(((0, 1), (whole + 1, 1)), ((number, 1), (0, 1)), 1)
        self.check_higher(((0, 1), (whole - 1, 1)), ((number, 1), (0, 1)), -1)
        self.check_higher(((-number, 1), (whole, 1)), ((0, 1), (0, 1)), 0)
        self.check_higher(((5, 1), (1, whole)), ((5 * number + 1, number), (0, 1)), 0)
        self.check_higher(((-number, 1), (whole + 1, 1)), ((-number + 1, 1), ((number - 1) ** 2 + 1, 1)), -1)
        self.check_higher(((7, 3), (whole, 4)), ((7, 3), (whole, 4)), 0)
        great = 5 * 10 ** 49
        self.check_higher(((great, 1), (great, 1)), ((great, 1), (great + 1, 1)), -1)
        self.check_higher(((great, great + 1), (0, 1)), ((great - 1, great), (0, 1)), 1)


class RootsTest(unittest.TestCase):
    """What higher and front stand on, also with roots that are taken off."""

    def test_all_small_ones(self):
        numbers = list(product((-3, -1, 0, 2), (1, -1), (0, 1, 2, 4, 8, 9), (1, 2, 3)))
        near = {number: (number[0] + number[1] * near_root(number[2])) / number[3] for number in numbers}
        for one, other in product(numbers, repeat=2):
            apart = near[one] - near[other]
            self.assertEqual(compare_roots(one, other), 0 if abs(apart) < FAR else sign_of(apart), (one, other))


class PassesTest(unittest.TestCase):
    def test_one(self):
        self.assertEqual(passes([(5, 5)]), [("spot", 0)])

    def test_on_a_line(self):
        self.assertEqual(passes([(9, 0), (4, 0), (6, 0)]), [("spot", 1), ("spot", 2), ("spot", 0)])
        self.assertEqual(passes([(9, 9), (4, 4), (6, 6)]), [("spot", 1), ("spot", 2), ("spot", 0)])
        self.assertEqual(passes([(1, 9), (1, 4), (1, 6)]), [("spot", 1), ("spot", 2), ("spot", 0)])

    def test_on_one_ring(self):
        # The spot at the top of the ring has its height, and stands ahead of it.
        expected = [9, 8, 10, 7, 11, 6, 0, 5, 1, 4, 2, 3]
        self.assertEqual(passes(RING), [("spot", number) for number in expected] + [("ring", (0, 0, 1))])

    def test_spots_ahead_of_rings_at_the_same_height(self):
        spots = [(-4, 3), (0, -5), (4, 3), (30, 5), (-30, 5)]
        told = passes(spots)
        self.assertEqual(told[:3], [("spot", 1), ("spot", 0), ("spot", 2)])
        self.assertEqual(told[3:6], [("spot", 4), ("spot", 3), ("ring", (0, 0, 1))])

    def test_rings_at_the_same_height_by_rising_centres(self):
        spots = [(12, 0), (10, 0), (2, 0), (0, 0), (0, 2), (2, 2), (10, 2), (12, 2)]
        told = passes(spots)
        self.assertEqual(told, [("spot", number) for number in (3, 2, 1, 0, 4, 5, 6, 7)] + [
            ("ring", (1, 1, 1)), ("ring", (11, 1, 1)), ("ring", (6, 1, 1))])

    def test_a_ring_below_a_spot(self):
        self.assertEqual(passes([(0, 0), (2, 0), (1, 1), (1, 100)])[:4],
                         [("spot", 0), ("spot", 1), ("spot", 2), ("ring", (1, 0, 1))])

    def heights_of(self, spots, told):
        """Tell the height of each of the passes, a tuple of two fractions, worked out by the rings."""
        tops = {centre: ((Fraction(centre[1], centre[2])), way) for centre, way, _ in rings(spots)}
        heights = []
        for what, which in told:
            if what == "spot":
                heights.append(((spots[which][1], 1), (0, 1)))
            else:
                heights.append((fraction(tops[which][0]), tops[which][1]))
        return heights

    def check_passes(self, spots):
        told = passes(spots)
        self.assertIs(type(told), list)
        self.assertEqual({type(row) for row in told}, {tuple})
        self.assertEqual(sorted(row[1] for row in told if row[0] == "spot"), list(range(len(spots))))
        self.assertEqual(sorted(row[1] for row in told if row[0] == "ring"), sorted(row[0] for row in rings(spots)))
        heights = self.heights_of(spots, told)
        rows = [(near_height(height), row) for height, row in zip(heights, told)]
        for (low, one), (high, other) in zip(rows, rows[1:]):
            if abs(high - low) > FAR:
                self.assertLess(low, high)
            else:
                self.assertLess(self.rank(spots, one), self.rank(spots, other))
        return told, heights

    def rank(self, spots, row):
        if row[0] == "spot":
            return (0, spots[row[1]][0])
        return (1, Fraction(row[1][0], row[1][2]), Fraction(row[1][1], row[1][2]))

    def test_all_lists(self):
        for name, spots in all_lists():
            with self.subTest(name):
                self.check_passes(spots)

    def test_between_two_heights_with_nothing_passed_the_front_is_the_same(self):
        for name, spots in all_lists():
            with self.subTest(name):
                told, heights = self.check_passes(spots)
                near = [near_height(height) for height in heights]
                near.append(near[-1] + 1000)
                for low, high in zip(near, near[1:]):
                    if high - low > FAR:
                        parts = (Fraction(1, 999), Fraction(1, 2), Fraction(998, 999))
                        fronts = [front(spots, fraction(low + (high - low) * part)) for part in parts]
                        self.assertEqual(fronts[0], fronts[1])
                        self.assertEqual(fronts[1], fronts[2])

    def test_thirty_figures(self):
        scale, dx, dy = big(11) // 10 ** 4, big(12) // 10, -big(13) // 10
        for name, spots in LISTS.items():
            if name != "twenty-six figures":
                far = moved_case((0, 0, 1, 1), spots, scale, dx, dy)[1]
                told, _ = self.check_passes(far)
                self.assertEqual([row[1] for row in told if row[0] == "spot"],
                                 [row[1] for row in passes(spots) if row[0] == "spot"])
                self.assertEqual([row[0] for row in told], [row[0] for row in passes(spots)])
        self.check_passes(CASES["thirty figures"][1])


class OwnTest(unittest.TestCase):
    """[2]: nothing that is handed in is changed, and what is told is the asker's own."""

    def test_own(self):
        for spots in LISTS.values():
            handed = list(spots)
            height = fraction(Fraction(spots[0][1]) + Fraction(1, 3))
            one, other = front(handed, height), passes(handed)
            self.assertEqual(handed, spots)
            kept = list(one), list(other)
            one.append(99)
            other.clear()
            self.assertEqual((front(handed, height), passes(handed)), kept)


if __name__ == "__main__":
    unittest.main()
