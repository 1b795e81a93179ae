"""[28], [8], [4], [11], [3], [2]: the looker, who tells fields and told lists from all else."""

import unittest
from fractions import Fraction
from itertools import combinations
from math import gcd

from nearlands.errors import NoBox, NoSpot, NoWeights, TooMany
from nearlands.far import far_lands
from nearlands.fields import area, box_field, cut
from nearlands.lands import lands
from nearlands.looker import is_far, is_field, is_lands, is_weighted
from nearlands.weights import weighted
from tests.helper import (
    CASES, RING, big, check_refused, copied, copied_fields, great_case, middle, moved_case, side_of, small,
    small_cases, where,
)

BOX = (0, 0, 8, 2)
TWO = [(1, 1), (7, 1)]
TWELVE = [(k, k % 5) for k in range(10)] + [(0, 8), (10, 0)]


def field_by(corners):
    """Tell the corners, which are in their order round to the left, as a field, beginning where it should."""
    first = min(range(len(corners)), key=lambda at: where(corners[at]))
    return (corners[first:] + corners[:first], list(range(-2, len(corners) - 2)))


def some_fields():
    """Tell fields of three to twelve corners, with small, broken and great numbers, and one of many corners."""
    for count in range(3, 13):
        ring = [RING[at * 12 // count] for at in range(count)]
        yield field_by([(x, y, 1) for x, y in ring])
        yield field_by([(x + 1, 3 * y, 5) if (x + 1) % 5 or y % 5 else ((x + 1) // 5, 3 * y // 5, 1) for x, y in ring])
        yield field_by([(x * big(1) + big(2), y * big(1) - big(3), 1) for x, y in ring])
    yield field_by([(k, k * k, 1) for k in range(-10, 10)])
    for box, spots in list(CASES.values())[::3]:
        yield from lands(box, spots)


def looks_right(thing):
    """Tell whether it is a field, by looking at each corner from each edge."""
    if type(thing) is not tuple or len(thing) != 2 or [type(part) for part in thing] != [list, list]:
        return False
    corners, edges = thing
    if len(corners) != len(edges) or len(corners) < 3 or any(type(edge) is not int for edge in edges):
        return False
    for corner in corners:
        if type(corner) is not tuple or len(corner) != 3 or any(type(number) is not int for number in corner):
            return False
        if corner[2] < 1 or gcd(*corner) != 1:
            return False
    if any(where(corner) <= where(corners[0]) for corner in corners[1:]):
        return False
    count = len(corners)
    return all(
        side_of(corners[at], corners[(at + 1) % count], corners[third]) == 1
        for at in range(count) for third in range(count) if third not in (at, (at + 1) % count)
    )


def put_in(rows, at, thing):
    return rows[:at] + [thing] + rows[at + 1:]


class IsFieldTest(unittest.TestCase):
    def check(self, thing):
        self.assertIs(is_field(thing), looks_right(thing), thing)

    def test_fields(self):
        count = 0
        for field in some_fields():
            self.assertTrue(looks_right(field))
            handed = copied(field)
            self.assertIs(is_field(handed), True)
            self.assertEqual(handed, field)
            count += 1
        self.assertGreater(count, 50)

    def test_many_corners(self):
        corners = [(k, k * k, 1) for k in range(3000)]
        edges = list(range(3000))
        self.assertIs(is_field((corners, edges)), True)
        self.assertIs(is_field((corners + corners, edges + edges)), False)
        self.assertIs(is_field((corners[::2] + corners[1::2], edges)), False)
        self.assertIs(is_field((put_in(corners, 1500, (1500, 1500 ** 2 + 1, 1)), edges)), False)

    def test_edges_may_be_any_whole_numbers(self):
        corners = [(0, 0, 1), (1, 0, 1), (0, 1, 1)]
        for edges in ([0, 0, 0], [-9, 99, 5], [big(1), -big(2), 0], [-1, -1, -1]):
            self.assertIs(is_field((list(corners), edges)), True)

    def no(self, thing):
        self.assertFalse(looks_right(thing))
        self.assertIs(is_field(thing), False)

    def test_other_kinds(self):
        for thing in (None, True, False, 0, 1, -7, "", "field", "0 0 -1; 3/2 0 4; 0 3 -4", [], (), [[], []], ([], []),
                      ((), ()), (None, None), [None], (1, 2), "ab", ("ab", "cd"), ("abc", "def"), [1, 2], ([1], [2]),
                      ([1, 2, 3], [1, 2, 3]), ("abc", [1, 2, 3]), ([None] * 3, [1, 2, 3]), (["abc"] * 3, [1, 2, 3])):
            self.no(thing)

    def test_a_list_for_a_tuple_and_the_like(self):
        for field in list(some_fields())[:30]:
            corners, edges = field
            for thing in ([corners, edges], (tuple(corners), edges), (corners, tuple(edges)), (corners, edges, []),
                          (corners, edges, None), (corners,), (edges, corners), corners, edges, (corners, None),
                          (None, edges), (field, edges), ([], []), (corners, []), (corners, {}),
                          (corners, "a" * len(edges)), [field], (field,)):
                self.no(thing)
            for at, corner in enumerate(corners):
                for wrong in (list(corner), corner[:2], corner + (1,), None, "abc", 1, (), [corner], (corner,) * 3,
                              (corner[0], corner[1], 0), (0, 0, 0), (corner[0], corner[1], -corner[2]),
                              tuple(-number for number in corner), tuple(2 * number for number in corner),
                              tuple(3 * number for number in corner)):
                    self.no((put_in(corners, at, wrong), edges))
                for part in range(3):
                    for wrong in (True, False, None, "1", "", [1], (1,), [], ()):
                        self.no((put_in(corners, at, corner[:part] + (wrong,) + corner[part + 1:]), edges))

    def test_truths_that_count_as_the_right_number(self):
        self.assertTrue(is_field(([(0, 0, 1), (1, 0, 1), (0, 1, 1)], [1, 0, 1])))
        self.no(([(0, 0, True), (1, 0, 1), (0, 1, 1)], [1, 0, 1]))
        self.no(([(False, 0, 1), (1, 0, 1), (0, 1, 1)], [1, 0, 1]))
        self.no(([(0, 0, 1), (1, 0, 1), (0, True, 1)], [1, 0, 1]))
        self.no(([(0, 0, 1), (1, 0, 1), (0, 1, 1)], [True, 0, 1]))
        self.no(([(0, 0, 1), (1, 0, 1), (0, 1, 1)], [1, False, 1]))

    def test_edges(self):
        for field in list(some_fields())[:12]:
            corners, edges = field
            self.no((corners, edges + [1]))
            self.no((corners, edges[:-1]))
            for at in range(len(edges)):
                for wrong in (True, None, "1", "a", [1], (1,)):
                    self.no((corners, put_in(edges, at, wrong)))

    def test_too_few_corners(self):
        self.no(([], []))
        self.no(([(0, 0, 1)], [1]))
        self.no(([(0, 0, 1), (1, 0, 1)], [1, 2]))

    def test_another_order(self):
        for field in some_fields():
            corners, edges = field
            for at in range(1, len(corners)):
                self.no((corners[at:] + corners[:at], edges))
            self.no((corners[::-1], edges))
            self.no((corners[:1] + corners[:0:-1], edges))
            for one, other in combinations(range(len(corners)), 2):
                mixed = list(corners)
                mixed[one], mixed[other] = corners[other], corners[one]
                self.no((mixed, edges))

    def test_corners_moved_left_out_and_put_in(self):
        for field in some_fields():
            corners, edges = field
            for at in range(len(corners)):
                following = corners[(at + 1) % len(corners)]
                self.check((corners[:at] + corners[at + 1:], edges[:-1]))
                self.check((corners[:at] + corners[at + 1:], edges))
                self.no((corners[:at] + [corners[at]] + corners[at:], edges + [1]))
                between = middle(corners[at], following)
                self.no((corners[:at + 1] + [between] + corners[at + 1:], edges + [1]))
                self.no((corners[:at + 1] + [between, between] + corners[at + 1:], edges + [1, 1]))
                self.check((put_in(corners, at, between), edges))
                self.check((put_in(corners, at, middle(*corners)), edges))
                self.check((put_in(corners, at, (-10 ** 40, 0, 1)), edges))
                self.no((put_in(corners, at, following), edges))
                self.check((put_in(corners, at, (corners[at][0] + 1, *corners[at][1:])), edges))
                self.check((corners + [corners[at]], edges + [1]))

    def test_corners_on_a_line(self):
        self.no(([(0, 0, 1), (1, 0, 1), (2, 0, 1)], [1, 2, 3]))
        self.no(([(0, 0, 1), (1, 1, 1), (2, 2, 1), (1, 1, 1)], [1, 2, 3, 4]))
        self.no(([(0, 0, 1), (1, 0, 1), (2, 0, 1), (0, 1, 1)], [1, 2, 3, 4]))
        self.no(([(0, 0, 1)] * 3, [1, 2, 3]))

    def test_gone_round_more_than_once(self):
        for field in some_fields():
            corners = field[0]
            count = len(corners)
            self.no((corners * 2, field[1] * 2))
            self.no((corners * 3, field[1] * 3))
            for stride in range(2, count - 1):
                if gcd(stride, count) == 1:
                    # A star: of five and seven corners with a stride of 2 it turns to the left at each.
                    self.no(([corners[at * stride % count] for at in range(count)], field[1]))

    def test_a_star_that_turns_to_the_left_at_each_corner(self):
        for count, stride in ((5, 2), (7, 2), (7, 3), (9, 4), (11, 5), (11, 3)):
            ring = field_by([(*RING[at * 12 // count], 1) for at in range(count)])[0]
            star = [ring[at * stride % count] for at in range(count)]
            for at in range(count):
                self.assertEqual(side_of(star[at - 2], star[at - 1], star[at]), 1)
            self.no((star, list(range(count))))

    def test_a_way_that_turns_to_the_left_and_winds_in(self):
        # Two rounds, the second one within the first.
        way = [(0, 0, 1), (9, 0, 1), (9, 9, 1), (1, 8, 1), (1, 1, 1), (8, 1, 1), (7, 7, 1), (2, 6, 1)]
        for at in range(len(way)):
            self.assertEqual(side_of(way[at - 2], way[at - 1], way[at]), 1)
        self.no((way, list(range(8))))

    def test_nested_deep(self):
        for wrap in (lambda thing: [thing], lambda thing: (thing,), lambda thing: (thing, thing),
                     lambda thing: ([thing] * 3, [1, 2, 3]), lambda thing: ([(thing, 0, 1)] * 3, [1, 2, 3])):
            thing = 1
            for _ in range(5000):
                thing = wrap(thing)
            self.assertIs(is_field(thing), False)
            self.assertIs(is_lands(BOX, TWO, thing), False)
            self.assertIs(is_far(BOX, TWO, [thing, thing]), False)
            self.assertIs(is_weighted(BOX, TWO, [1, 2], (thing, thing)), False)


def spoilt_field(box, field, count):
    """Tell what is nearly this field: an edge called otherwise, corners moved, cut off or put in, other orders."""
    corners, edges = field
    for at in range(len(corners)):
        for called in {-5, -4, -3, -2, -1, 0, count // 2, count - 1, count, edges[at] + 1, 99} - {edges[at]}:
            yield (corners, put_in(edges, at, called))
        yield (corners, put_in(edges, at, True))
        yield (corners[at:] + corners[:at], edges[at:] + edges[:at]) if at else (corners, edges[1:] + edges[:1])
        yield (corners[:at] + corners[at + 1:], edges[:at] + edges[at + 1:])
        x, y, w = corners[at]
        yield (put_in(corners, at, (2 * x, 2 * y, 2 * w)), edges)
        yield (put_in(corners, at, [x, y, w]), edges)
        yield (put_in(corners, at, middle(corners[at], middle(*corners))), edges)
        yield (put_in(corners, at, middle(corners[at - 1], corners[at])), edges)
        yield (put_in(corners, at, middle(corners[at], corners[at - 1], corners[at])), edges)
        yield (put_in(corners, at, (x + w, y, w)), edges)
        around = middle(corners[at - 1], corners[at])
        yield (corners[:at] + [around] + corners[at:], edges[:at] + [edges[at - 1]] + edges[at:])
        # What is left when the corner is cut off amid its two edges.
        one, other = around, middle(corners[at], corners[(at + 1) % len(corners)])
        line = (other[1] * one[2] - one[1] * other[2], one[0] * other[2] - other[0] * one[2],
                one[0] * other[1] - other[0] * one[1])
        less = cut(field, tuple(-number for number in line), count // 2)
        if less is not None:
            yield less
    yield [corners, edges]
    yield (tuple(corners), edges)
    yield (corners, edges, [])
    yield box_field(box)
    yield None
    yield True
    yield "field"


def spoilt(box, told):
    """Tell things that are nearly the told list: one field spoilt, two exchanged, some left out or put in."""
    for at, field in enumerate(told):
        if field is not None:
            for wrong in spoilt_field(box, field, len(told)):
                yield put_in(told, at, wrong)
        else:
            yield put_in(told, at, box_field(box))
            yield put_in(told, at, False)
            yield put_in(told, at, told[at - 1])
        yield told[:at] + told[at + 1:]
        yield told[:at] + [field] + told[at:]
    for one, other in combinations(range(len(told)), 2):
        mixed = list(told)
        mixed[one], mixed[other] = told[other], told[one]
        yield mixed
        yield [renamed(field, one, other) for field in told]
        yield [renamed(field, one, other) for field in mixed]
        yield put_in(told, one, told[other])
    yield from (None, [], (), True, 0, "", "lands", tuple(told), told + [None], [None] + told, [told], (told,),
                [None] * len(told), [box_field(box)] * len(told), told[::-1] if told[::-1] != told else None)


def renamed(field, one, other):
    """Tell the field with two spots' numbers exchanged in what its edges are called by."""
    if field is None:
        return None
    return (field[0], [{one: other, other: one}.get(edge, edge) for edge in field[1]])


def part_of(box, spots, told_of, some):
    """Tell the list of the fields of some of the spots as they are without the others, None for these."""
    fields = told_of(box, [spots[at] for at in some], some)
    told = [None] * len(spots)
    for at, field in zip(some, fields):
        if field is not None:
            told[at] = (field[0], [some[edge] if edge >= 0 else edge for edge in field[1]])
    return told


def weights_of(spots, k=0, most=20):
    return [small(31 * k + 7 * number, -most, most) for number in range(len(spots))]


def some_cases():
    """Tell boxes with spots: small ones of few and of some spots, and great ones."""
    told = [CASES[name] for name in ("one", "two, oblique", "level line", "corners", "half a ring", "thirty figures")]
    told += list(small_cases(10))
    return told + [great_case(*CASES["grid within"]), great_case(*CASES["oblique line"])]


# How each list is told and looked at, of a box, spots and weights.
KINDS = {
    "lands": (lambda box, spots, weights: lands(box, spots),
              lambda box, spots, weights, thing: is_lands(box, spots, thing)),
    "far": (lambda box, spots, weights: far_lands(box, spots),
            lambda box, spots, weights, thing: is_far(box, spots, thing)),
    "weighted": (weighted, is_weighted),
}


class IsToldTest(unittest.TestCase):
    def check(self, box, spots, weights, thing):
        """Fail unless the looker lets the thing by just where it is what is told; repr tells 1 from True."""
        for told_of, looked_at in KINDS.values():
            expected = repr(thing) == repr(told_of(box, spots, weights))
            self.assertIs(looked_at(box, spots, weights, thing), expected, (box, spots, weights, thing))

    def test_told_lists(self):
        for box, spots in list(CASES.values()) + list(small_cases(60)):
            for k in range(3):
                weights = weights_of(spots, k, 3 + 30 * k)
                for told_of, looked_at in KINDS.values():
                    told = told_of(box, spots, weights)
                    handed = copied_fields(told)
                    self.assertIs(looked_at(box, spots, weights, handed), True)
                    self.assertEqual(handed, told)
                    self.check(box, spots, weights, told)

    def test_great_told_lists(self):
        for name, (box, spots) in CASES.items():
            if name != "thirty figures":
                great_box, great_spots = great_case(box, spots)
                weights = [(-1) ** k * big(k) for k in range(len(spots))]
                for told_of, looked_at in KINDS.values():
                    told = told_of(great_box, great_spots, weights)
                    self.assertIs(looked_at(great_box, great_spots, weights, told), True)

    def test_spoilt_in_one_thing(self):
        for k, (box, spots) in enumerate(some_cases()):
            weights = weights_of(spots, k)
            for told_of, looked_at in KINDS.values():
                told = told_of(box, spots, weights)
                right = repr(told)
                for thing in spoilt(box, told):
                    expected = repr(thing) == right
                    self.assertIs(looked_at(box, spots, weights, thing), expected, (box, spots, weights, thing))

    def test_other_boxes_and_spots(self):
        for k, (box, spots) in enumerate(some_cases()):
            weights = weights_of(spots, k)
            x, y, u, v = box
            for told_of, _ in KINDS.values():
                for other in ((x, y, u + 1, v), (x - 1, y, u, v), (x, y - 1, u, v), (x, y, u, v + 1)):
                    self.check(box, spots, weights, told_of(other, spots, weights))
                self.check(box, spots, weights, told_of(box, spots[::-1], weights))
                for dx, dy in ((1, 0), (0, 1), (-1, 0), (0, -1)):
                    moved = [(spots[0][0] + dx, spots[0][1] + dy)] + spots[1:]
                    if moved[0] not in spots[1:] and x <= moved[0][0] <= u and y <= moved[0][1] <= v:
                        self.check(box, spots, weights, told_of(box, moved, weights))
            self.check(box, spots, weights, weighted(box, spots, put_in(weights, 0, weights[0] + 1)))
            self.check(box, spots, weights, lands(*moved_case(box, spots, 2, 0, 0)))

    def test_a_right_parting_among_some_of_the_spots(self):
        ways = (
            lambda box, spots, some: lands(box, spots),
            lambda box, spots, some: far_lands(box, spots),
        )
        for k, (box, spots) in enumerate(some_cases()):
            weights = weights_of(spots, k)
            by_weights = (lambda box, spots, some: weighted(box, spots, [weights[at] for at in some]),)
            for told_of in ways + by_weights:
                for left_out in range(len(spots)):
                    some = [at for at in range(len(spots)) if at != left_out]
                    if some:
                        self.check(box, spots, weights, part_of(box, spots, told_of, some))
                    self.check(box, spots, weights, part_of(box, spots, told_of, [left_out]))

    def test_none_is_never_right_in_lands(self):
        for box, spots in some_cases():
            told = lands(box, spots)
            for at in range(len(spots)):
                self.assertIs(is_lands(box, spots, put_in(told, at, None)), False)
        self.assertIs(is_lands(BOX, TWO, [box_field(BOX), None]), False)
        self.assertIs(is_lands(BOX, TWO, [None, box_field(BOX)]), False)
        self.assertIs(is_lands(BOX, TWO, [None, None]), False)

    def test_fields_that_lie_over_one_another(self):
        left = ([(0, 0, 1), (4, 0, 1), (4, 2, 1), (0, 2, 1)], [-1, 1, -3, -4])
        right = ([(4, 0, 1), (8, 0, 1), (8, 2, 1), (4, 2, 1)], [-1, -2, -3, 0])
        self.assertIs(is_lands(BOX, TWO, [left, right]), True)
        self.assertIs(is_far(BOX, TWO, [(right[0], [-1, -2, -3, 1]), (left[0], [-1, 0, -3, -4])]), True)
        for one in ((left[0], [-1, 1, -3, -4]), (right[0], [-1, -2, -3, 1])):
            for other in ((left[0], [-1, 0, -3, -4]), (right[0], [-1, -2, -3, 0])):
                # All have the box's area in all; both kinds stand apart, or over one another.
                self.assertEqual(sum(Fraction(*area(field)) for field in (one, other)), 16)
                self.check(BOX, TWO, [0, 0], [one, other])
                self.check(BOX, TWO, [24, 0], [one, other])

    def test_a_field_that_reaches_beyond_the_box(self):
        # Half as high as the box and twice as long, so that the areas come to the box's.
        one = ([(0, 0, 1), (8, 0, 1), (8, 1, 1), (0, 1, 1)], [-1, 1, -3, -4])
        self.check(BOX, TWO, [0, 0], [one, ([(4, 0, 1), (8, 0, 1), (8, 2, 1), (4, 2, 1)], [-1, -2, -3, 0])])
        two = ([(4, -1, 1), (8, -1, 1), (8, 1, 1), (4, 1, 1)], [-1, -2, -3, 0])
        self.check(BOX, TWO, [0, 0], [([(0, 0, 1), (4, 0, 1), (4, 2, 1), (0, 2, 1)], [-1, 1, -3, -4]), two])

    def test_an_edge_called_by_a_spot_that_has_no_field(self):
        spots, weights = [(1, 1), (4, 1), (7, 1)], [9, 0, 9]
        told = weighted(BOX, spots, weights)
        self.assertIsNone(told[1])
        self.assertIs(is_weighted(BOX, spots, weights, told), True)
        (corners, edges), _, (others, called) = told
        self.assertEqual((edges, called), ([-1, 2, -3, -4], [-1, -2, -3, 0]))
        # All three lines are one; but 1 has nothing on the other side.
        self.assertIs(is_weighted(BOX, spots, weights, [(corners, [-1, 1, -3, -4]), None, (others, called)]), False)
        self.assertIs(is_weighted(BOX, spots, weights, [(corners, edges), None, (others, [-1, -2, -3, 1])]), False)

    def test_a_line_of_like_measure_along_a_side_of_the_box(self):
        spots, weights = [(1, 1), (7, 1)], [49, 1]
        self.assertIs(is_weighted(BOX, spots, weights, [box_field(BOX), None]), True)
        self.assertIs(is_weighted(BOX, spots, weights, [(box_field(BOX)[0], [-1, 1, -3, -4]), None]), False)
        self.assertIs(is_weighted(BOX, spots, weights, [None, box_field(BOX)]), False)
        self.assertIs(is_weighted(BOX, spots, [1, 49], [box_field(BOX), None]), False)

    def test_one_spot(self):
        for told_of, looked_at in KINDS.values():
            self.assertIs(looked_at(BOX, [(1, 1)], [7], [box_field(BOX)]), True)
            for thing in ([None], [], box_field(BOX), [box_field((0, 0, 8, 3))], [box_field(BOX)] * 2,
                          [(box_field(BOX)[0], [-1, -2, -3, 0])], [(box_field(BOX)[0], [-2, -1, -3, -4])]):
                self.assertIs(looked_at(BOX, [(1, 1)], [7], thing), False)


class RefusedTest(unittest.TestCase):
    def test_refused_whatever_is_handed_in(self):
        for thing in (None, [], True, "x", [None, None], lands(BOX, TWO), [[[]]], ((1, 2), 3)):
            for look in (lambda box, spots: is_lands(box, spots, thing), lambda box, spots: is_far(box, spots, thing),
                         lambda box, spots: is_weighted(box, spots, [1, 2], thing),
                         lambda box, spots: is_weighted(box, spots, None, thing)):
                check_refused(self, NoBox, lambda: look((0, 0, 8, 0), TWO))
                check_refused(self, NoBox, lambda: look((0, 0, 8, 0), []))
                check_refused(self, TooMany, lambda: look(BOX, []))
                check_refused(self, TooMany, lambda: look((0, 0, 10, 8), TWELVE + [(9, 7)]))
                check_refused(self, NoSpot, lambda: look(BOX, [(1, 1), (9, 9)]), 1)
                check_refused(self, NoSpot, lambda: look(BOX, [(1, 1), (1, 1)]), 1)
            for weights in ([], [1], [1, 2, 3], (1, 2), None, "12", [True, 1], [1, None], [1, "2"], 5):
                check_refused(self, NoWeights, lambda: is_weighted(BOX, TWO, weights, thing))


class OwnTest(unittest.TestCase):
    """[2]: nothing that is handed in is changed."""

    def test_own(self):
        for k, (box, spots) in enumerate(some_cases()):
            weights = weights_of(spots, k)
            for told_of, looked_at in KINDS.values():
                told = told_of(box, spots, weights)
                for thing in list(spoilt(box, told))[::5]:
                    handed, weighing, earlier = list(spots), list(weights), repr(thing)
                    first = looked_at(box, handed, weighing, thing)
                    self.assertIs(looked_at(box, handed, weighing, thing), first)
                    self.assertEqual((handed, weighing, repr(thing)), (spots, weights, earlier))


if __name__ == "__main__":
    unittest.main()
