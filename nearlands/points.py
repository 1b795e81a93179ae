"""Points and fractions, and how points and spots lie to one another."""

from nearlands.errors import NoNumber
from nearlands.whole import divisor, sign


def point_of(x, y, w):
    """Tell the point at x by w and y by w."""
    if w == 0:
        raise NoNumber("the last number of a point is 0")
    # The divisor takes the sign of w, so that the told last number is above 0.
    common = divisor(divisor(w, x), y) * sign(w)
    return (x // common, y // common, w // common)


def spot_point(spot):
    """Tell the point at which the spot stands."""
    return (spot[0], spot[1], 1)


def fraction_of(top, bottom):
    """Tell the fraction top by bottom."""
    if bottom == 0:
        raise NoNumber("the bottom of a fraction is 0")
    common = divisor(bottom, top) * sign(bottom)
    return (top // common, bottom // common)


def less(one, other):
    """Tell whether the one fraction is less than the other."""
    return one[0] * other[1] < other[0] * one[1]


def difference(one, other):
    """Tell the fraction that is the one less the other."""
    return fraction_of(one[0] * other[1] - other[0] * one[1], one[1] * other[1])


def ahead(one, other):
    """Tell whether the one point is ahead of the other."""
    across = one[0] * other[2] - other[0] * one[2]
    if across != 0:
        return across < 0
    return one[1] * other[2] < other[1] * one[2]


def turn(one, other, third):
    """Tell 1, -1 or 0: the third lies to the left of who goes from the one to the other, to the right, or neither."""
    # As all last numbers are above 0, the determinant of the three has the sign of the turn.
    return sign(
        one[0] * (other[1] * third[2] - third[1] * other[2])
        - one[1] * (other[0] * third[2] - third[0] * other[2])
        + one[2] * (other[0] * third[1] - third[0] * other[1])
    )


def scaled_square(point, spot):
    """Tell the square of the way from the point to the spot, times the square of the point's last number."""
    x, y, w = point
    return (x - spot[0] * w) ** 2 + (y - spot[1] * w) ** 2


def square(point, spot):
    """Tell the fraction that is the square of the way from the point to the spot."""
    return fraction_of(scaled_square(point, spot), point[2] ** 2)


def nearer(point, one, other):
    """Tell -1, 1 or 0: the one spot is nearer to the point, the other is, or neither."""
    return sign(scaled_square(point, one) - scaled_square(point, other))


def nearest_of(spots, point):
    """Tell the rising list of the numbers of all spots that are nearest to the point."""
    ways = [scaled_square(point, spot) for spot in spots]
    least = min(ways)
    return [number for number, way in enumerate(ways) if way == least]
