"""What several tests need: big numbers, and a second way to work things out, by Python's fractions."""

from fractions import Fraction
from functools import cmp_to_key
from itertools import combinations
from math import gcd

from nearlands.errors import LandError, NoSpot
from nearlands.lands import lands


def big(k):
    """Tell the k-th of a row of numbers of thirty figures that look like chance but never change."""
    number = pow(7, 1000 + 13 * k, 10 ** 31 - 27) % (9 * 10 ** 29) + 10 ** 29
    assert len(str(number)) == 30
    return number


def big_26(k):
    """Tell the k-th of such a row of numbers of twenty-six figures."""
    return big(k) // 10 ** 4


def small(k, low, high):
    """Tell the k-th of a row of numbers from low to high that look like chance but never change."""
    return low + pow(5, 77 + 3 * k, 1000003) % (high - low + 1)


def neighbours(figures):
    """Tell the first two neighbours of that many figures in the row where each is the sum of the two ahead."""
    one, other = 1, 2
    least = 10 ** (figures - 1)
    while one < least:
        one, other = other, one + other
    return one, other


def where(point):
    """Tell the x and the y of a point as fractions of Python's."""
    return Fraction(point[0], point[2]), Fraction(point[1], point[2])


def point_at(x, y):
    """Tell the point that stands at two fractions of Python's."""
    x, y = Fraction(x), Fraction(y)
    w = x.denominator * y.denominator // gcd(x.denominator, y.denominator)
    return (int(x * w), int(y * w), w)


def turned(line):
    """Tell the line with the same points, and before and behind exchanged."""
    return tuple(-number for number in line)


def sign_of(number):
    return (number > 0) - (number < 0)


def side_of(one, other, third):
    """Tell the turn of three points, worked out by fractions."""
    (ax, ay), (bx, by), (cx, cy) = where(one), where(other), where(third)
    return sign_of((bx - ax) * (cy - ay) - (cx - ax) * (by - ay))


def way_square(point, spot):
    x, y = where(point)
    return (x - spot[0]) ** 2 + (y - spot[1]) ** 2


def nearest_spots(spots, point):
    ways = [way_square(point, spot) for spot in spots]
    return [number for number, way in enumerate(ways) if way == min(ways)]


def centre_of(one, other, third):
    """Tell the point that is as near to each of three spots, None where they lie on one line."""
    (a, b), (c, d), (e, f) = one, other, third
    bend = 2 * (a * (d - f) + c * (f - b) + e * (b - d))
    if bend == 0:
        return None
    x = (a * a + b * b) * (d - f) + (c * c + d * d) * (f - b) + (e * e + f * f) * (b - d)
    y = (a * a + b * b) * (e - c) + (c * c + d * d) * (a - e) + (e * e + f * f) * (c - a)
    return point_at(Fraction(x, bend), Fraction(y, bend))


def in_order(points):
    """Tell the points, each once, in rising order, by Python's fractions."""
    return sorted(set(points), key=where)


def middle(*points):
    places = [where(point) for point in points]
    return point_at(sum(x for x, y in places) / len(places), sum(y for x, y in places) / len(places))


def sides(field):
    """Tell the edges of a field as tuples (from, to, what it is called by)."""
    corners, edges = field
    return list(zip(corners, corners[1:] + corners[:1], edges))


def has_point(field, point):
    return all(side_of(start, end, point) >= 0 for start, end, _ in sides(field))


def twice_area(field):
    places = [where(corner) for corner in field[0]]
    return sum(a * d - c * b for (a, b), (c, d) in zip(places, places[1:] + places[:1]))


def copied(field):
    return (list(field[0]), list(field[1]))


def moved(point, scale, dx, dy):
    """Tell the point that stands where another does when all is scaled and then moved."""
    x, y = where(point)
    return point_at(x * scale + dx, y * scale + dy)


def check_kind(test, numbers):
    """Fail unless all are whole numbers and no truths."""
    for number in numbers:
        test.assertIs(type(number), int)


def check_lowest(test, numbers, count):
    """Fail unless this is a tuple of so many whole numbers, in lowest terms, the last of them above 0."""
    test.assertIs(type(numbers), tuple)
    test.assertEqual(len(numbers), count)
    check_kind(test, numbers)
    test.assertGreaterEqual(numbers[-1], 1)
    test.assertEqual(gcd(*numbers), 1)


def check_point(test, point):
    check_lowest(test, point, 3)


def check_fraction(test, fraction):
    check_lowest(test, fraction, 2)


def check_refused(test, kind, call, at=None):
    """Fail unless the call is refused with just this class, and for NoSpot with this field at."""
    with test.assertRaises(LandError) as told:
        call()
    test.assertIs(type(told.exception), kind)
    if kind is NoSpot:
        test.assertEqual(told.exception.at, at)


def check_field(test, field):
    """Fail unless this is a field."""
    test.assertIs(type(field), tuple)
    corners, edges = field
    test.assertIs(type(corners), list)
    test.assertIs(type(edges), list)
    test.assertEqual(len(corners), len(edges))
    test.assertGreaterEqual(len(corners), 3)
    check_kind(test, edges)
    for corner in corners:
        check_point(test, corner)
    # No corner twice, all to the left of each edge: so one goes round just once, turning to the left at each.
    test.assertEqual(len(set(corners)), len(corners))
    for start, end, _ in sides(field):
        for corner in corners:
            if corner not in (start, end):
                test.assertEqual(side_of(start, end, corner), 1)
    for corner in corners[1:]:
        test.assertLess(where(corners[0]), where(corner))


RING = [(5, 0), (4, 3), (3, 4), (0, 5), (-3, 4), (-4, 3), (-5, 0), (-4, -3), (-3, -4), (0, -5), (3, -4), (4, -3)]

# Boxes with spots: one, two, on a line (level, upright, oblique), on a grid, on a ring, with its middle,
# on sides and corners of the box, and twelve anywhere.
CASES = {
    "one": ((0, 0, 4, 3), [(1, 1)]),
    "one at a corner": ((0, 0, 4, 3), [(4, 3)]),
    "two": ((0, 0, 4, 2), [(1, 1), (3, 1)]),
    "two, oblique": ((-3, -3, 6, 5), [(4, 2), (-1, 0)]),
    "two side by side at the edge": ((0, 0, 1, 9), [(1, 9), (0, 9)]),
    "level line": ((0, 0, 20, 3), [(1, 1), (4, 1), (19, 1), (9, 1)]),
    "upright line": ((0, 0, 3, 20), [(0, 20), (0, 7), (0, 1), (0, 0)]),
    "oblique line": ((0, 0, 10, 10), [(1, 1), (9, 9), (5, 5), (3, 3), (0, 0), (10, 10)]),
    "grid": ((0, 0, 6, 4), [(x, y) for x in (0, 2, 4, 6) for y in (0, 2, 4)]),
    "grid within": ((0, 0, 9, 9), [(x, y) for y in (7, 4, 1) for x in (1, 4, 7)]),
    "ring": ((-6, -7, 8, 9), RING),
    "ring that touches the box": ((-5, -5, 5, 5), RING),
    "ring with its middle": ((-6, -7, 8, 9), RING[:11] + [(0, 0)]),
    "half a ring": ((-5, -1, 5, 9), [(0, 0)] + RING[:7]),
    "corners": ((0, 0, 5, 3), [(0, 0), (5, 3), (0, 3), (5, 0)]),
    "sides and corners": ((0, 0, 8, 6), [(0, 0), (8, 6), (4, 0), (4, 6), (0, 3), (8, 3), (8, 0), (4, 3)]),
    "twelve": ((0, 0, 99, 99), [(small(k, 0, 99), small(k + 500, 0, 99)) for k in range(12)]),
    "twelve close together": ((0, 0, 3, 2), [(x, y) for x in range(4) for y in range(3)]),
    "twelve in a wide box": ((-900, -900, 900, 900), [(small(k, -9, 9), small(k + 700, -9, 9)) for k in range(12)]),
    "thirty figures": (
        (-big(900), -big(901), big(902), big(903)),
        [((-1) ** k * (big(k) // 10), (-1) ** (k // 2) * (big(k + 50) // 10)) for k in range(12)],
    ),
}


def moved_case(box, spots, scale, dx, dy):
    x, y, u, v = box
    return (
        (x * scale + dx, y * scale + dy, u * scale + dx, v * scale + dy),
        [(x * scale + dx, y * scale + dy) for x, y in spots],
    )


def some_points(box, told):
    """Tell points of a box: corners of lands, middles of edges and lands, and some between its sides."""
    x, y, u, v = box
    points = [point_at(x + Fraction((u - x) * i, 7), y + Fraction((v - y) * j, 5)) for i in range(8) for j in range(6)]
    for field in told:
        points += field[0] + [middle(start, end) for start, end, _ in sides(field)] + [middle(*field[0])]
    return sorted(set(points))


def some_spots(box, k, count):
    """Tell so many spots of a small box (or all where it has fewer) that look like chance but never change."""
    places = [(x, y) for x in range(box[0], box[2] + 1) for y in range(box[1], box[3] + 1)]
    return sorted(places, key=lambda spot: small(7 * spot[0] + 31 * spot[1] + 100 * k, 0, 10 ** 5))[:count]


def small_cases(count):
    """Tell so many small boxes with spots."""
    for k in range(count):
        box = (-2, -1, small(k, 1, 5), small(k + 90, 2, 4))
        yield box, some_spots(box, k, small(k + 40, 1, 12))


def expected_reach(spots, one, other, box=None):
    """Tell the ends of the reach of two spots (in a box, where one is told), None where it has no two points.

    Each bound is a number that is to be from 0 on and changes evenly along the line between the two spots.
    """
    (a, b), (c, d) = spots[one], spots[other]
    bounds = [lambda x, y, spot=spot: (x - spot[0]) ** 2 + (y - spot[1]) ** 2 - (x - a) ** 2 - (y - b) ** 2
              for spot in spots]
    if box is not None:
        bounds += [lambda x, y: x - box[0], lambda x, y: y - box[1], lambda x, y: box[2] - x, lambda x, y: box[3] - y]

    def at(place):
        return Fraction(a + c, 2) + place * (b - d), Fraction(b + d, 2) + place * (c - a)

    starts, ends = [], []
    for bound in bounds:
        here = bound(*at(0))
        change = bound(*at(1)) - here
        if change > 0:
            starts.append(-here / change)
        elif change < 0:
            ends.append(-here / change)
        elif here < 0:
            return None
    if starts and ends and max(starts) >= min(ends):
        return None
    return (point_at(*at(max(starts))) if starts else None, point_at(*at(min(ends))) if ends else None)


def lot_lands(box, spots, lot):
    """Tell the lands of a lot's spots as they are without the others, edges called by the numbers in spots."""
    numbers = sorted(lot)
    told = lands(box, [spots[number] for number in numbers])
    return [(corners, [edge if edge < 0 else numbers[edge] for edge in edges]) for corners, edges in told]


def expected_field(bounds, called):
    """Tell the field of the points where a x + b y is at most c for all bounds (a, b, c), None without an inside.

    called tells of the two ends of an edge what it is called by. Where the lines of two bounds cross at a point that
    keeps to all bounds, there is a corner, and there alone.
    """
    corners = set()
    for (a, b, c), (d, e, f) in combinations(bounds, 2):
        w = a * e - b * d
        if w != 0:
            x, y = (c * e - b * f) * sign_of(w), (a * f - c * d) * sign_of(w)
            w = abs(w)
            if all(g * x + h * y <= i * w for g, h, i in bounds):
                common = gcd(x, y, w)
                corners.add((x // common, y // common, w // common))
    first, *others = sorted(corners, key=where) or [None]
    if len(others) < 2 or all(side_of(first, others[0], corner) == 0 for corner in others):
        return None
    # Seen from the first one, the others lie the more to the left the later they come.
    others.sort(key=cmp_to_key(lambda one, other: -side_of(first, one, other)))
    way = [first] + others
    return (way, [called(one, other) for one, other in zip(way, way[1:] + way[:1])])


def expected_parting(box, spots, weights=None, far=False):
    """Tell the lands of the spots (farthest ones, or ones with weights), worked out a second way."""
    weights = weights or [0] * len(spots)
    return [expected_part(box, spots, weights, -1 if far else 1, number) for number in range(len(spots))]


def expected_part(box, spots, weights, kind, number):
    x, y, u, v = box
    sides_of_box = [(0, -1, -y), (1, 0, u), (0, 1, v), (-1, 0, -x)]
    lines = {}
    for other, (c, d) in enumerate(spots):
        a, b = spots[number]
        if other != number:
            constant = c * c + d * d - a * a - b * b + weights[number] - weights[other]
            lines[other] = (2 * (c - a) * kind, 2 * (d - b) * kind, constant * kind)

    def called(one, other):
        for side, line in enumerate(sides_of_box):
            if on_line(line, one) and on_line(line, other):
                return -1 - side
        across = [at for at, line in lines.items() if on_line(line, one) and on_line(line, other)]
        (px, py), (qx, qy) = where(one), where(other)
        # A point to the right of the edge, where the field on the other side is that of the least measure.
        beyond = point_at((px + qx) / 2 + (qy - py), (py + qy) / 2 - (qx - px))
        return min(across, key=lambda at: kind * (way_square(beyond, spots[at]) - weights[at]))

    return expected_field(sides_of_box + list(lines.values()), called)


def on_line(line, point):
    return line[0] * point[0] + line[1] * point[1] == line[2] * point[2]


def check_parting(test, box, told):
    """Fail unless these are fields, or None, whose areas come to the box's."""
    test.assertIs(type(told), list)
    for field in told:
        if field is not None:
            check_field(test, field)
    whole = 2 * (box[2] - box[0]) * (box[3] - box[1])
    test.assertEqual(sum(twice_area(field) for field in told if field is not None), whole)


def copied_fields(fields):
    return [None if field is None else copied(field) for field in fields]


def spoil(fields):
    """Change a told list of fields and all lists within it."""
    for field in fields:
        if field is not None:
            field[0].reverse()
            field[0].pop()
            field[1].append(99)
    fields.clear()


def moved_field(field, scale, dx, dy):
    if field is None:
        return None
    return ([moved(corner, scale, dx, dy) for corner in field[0]], list(field[1]))


GREAT = (big(11) // 10 ** 4, big(12) // 10, -big(13) // 10)


def great_case(box, spots):
    """Tell a small box with spots, scaled and moved to numbers of up to thirty figures."""
    return moved_case(box, spots, *GREAT)
