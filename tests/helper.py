"""What several tests need: big numbers, and a second way to work things out, by Python's fractions."""

from fractions import Fraction
from math import gcd


def big(k):
    """Tell the k-th of a row of numbers of thirty figures that look like chance but never change."""
    number = pow(7, 1000 + 13 * k, 10 ** 31 - 27) % (9 * 10 ** 29) + 10 ** 29
    assert len(str(number)) == 30
    return number


def small(k, low, high):
    """Tell the k-th of a row of numbers from low to high that look like chance but never change."""
    return low + pow(5, 77 + 3 * k, 1000003) % (high - low + 1)


def neighbours(figures):
    """Tell the first two neighbours of that many figures in the row where each is the sum of the two ahead."""
    one, other = 1, 2
    least = 10 ** (figures - 1)
    while one < least:
        one, other = other, one + other
    return one, other


def where(point):
    """Tell the x and the y of a point as fractions of Python's."""
    return Fraction(point[0], point[2]), Fraction(point[1], point[2])


def point_at(x, y):
    """Tell the point that stands at two fractions of Python's."""
    x, y = Fraction(x), Fraction(y)
    w = x.denominator * y.denominator // gcd(x.denominator, y.denominator)
    return (int(x * w), int(y * w), w)


def turned(line):
    """Tell the line with the same points, and before and behind exchanged."""
    return tuple(-number for number in line)


def sign_of(number):
    return (number > 0) - (number < 0)


def side_of(one, other, third):
    """Tell the turn of three points, worked out by fractions."""
    (ax, ay), (bx, by), (cx, cy) = where(one), where(other), where(third)
    return sign_of((bx - ax) * (cy - ay) - (cx - ax) * (by - ay))


def way_square(point, spot):
    x, y = where(point)
    return (x - spot[0]) ** 2 + (y - spot[1]) ** 2


def nearest_spots(spots, point):
    ways = [way_square(point, spot) for spot in spots]
    return [number for number, way in enumerate(ways) if way == min(ways)]


def middle(*points):
    places = [where(point) for point in points]
    return point_at(sum(x for x, y in places) / len(places), sum(y for x, y in places) / len(places))


def sides(field):
    """Tell the edges of a field as tuples (from, to, what it is called by)."""
    corners, edges = field
    return list(zip(corners, corners[1:] + corners[:1], edges))


def has_point(field, point):
    return all(side_of(start, end, point) >= 0 for start, end, _ in sides(field))


def twice_area(field):
    places = [where(corner) for corner in field[0]]
    return sum(a * d - c * b for (a, b), (c, d) in zip(places, places[1:] + places[:1]))


def copied(field):
    return (list(field[0]), list(field[1]))


def moved(point, scale, dx, dy):
    """Tell the point that stands where another does when all is scaled and then moved."""
    x, y = where(point)
    return point_at(x * scale + dx, y * scale + dy)


def check_kind(test, numbers):
    """Fail unless all are whole numbers and no truths."""
    for number in numbers:
        test.assertIs(type(number), int)


def check_lowest(test, numbers, count):
    """Fail unless this is a tuple of so many whole numbers, in lowest terms, the last of them above 0."""
    test.assertIs(type(numbers), tuple)
    test.assertEqual(len(numbers), count)
    check_kind(test, numbers)
    test.assertGreaterEqual(numbers[-1], 1)
    test.assertEqual(gcd(*numbers), 1)


def check_point(test, point):
    check_lowest(test, point, 3)


def check_fraction(test, fraction):
    check_lowest(test, fraction, 2)


def check_field(test, field):
    """Fail unless this is a field."""
    test.assertIs(type(field), tuple)
    corners, edges = field
    test.assertIs(type(corners), list)
    test.assertIs(type(edges), list)
    test.assertEqual(len(corners), len(edges))
    test.assertGreaterEqual(len(corners), 3)
    check_kind(test, edges)
    for corner in corners:
        check_point(test, corner)
    # No corner twice, all to the left of each edge: so one goes round just once, turning to the left at each.
    test.assertEqual(len(set(corners)), len(corners))
    for start, end, _ in sides(field):
        for corner in corners:
            if corner not in (start, end):
                test.assertEqual(side_of(start, end, corner), 1)
    for corner in corners[1:]:
        test.assertLess(where(corners[0]), where(corner))
