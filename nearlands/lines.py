"""Lines, what lies behind and before them, and where they meet."""

from nearlands.errors import NoLine
from nearlands.points import point_of
from nearlands.whole import divisor, sign


def line_of(a, b, c):
    """Tell the line with a x + b y = c, in lowest terms."""
    if a == 0 and b == 0:
        raise NoLine("the first two numbers of a line are 0")
    # The divisor is above 0: one below 0 would exchange before and behind.
    common = divisor(divisor(a, b), c)
    return (a // common, b // common, c // common)


def between(one, other):
    """Tell the line of the points as near to both spots; behind it lies what is nearer to the one."""
    if one == other:
        raise NoLine("no line lies between a spot and itself")
    x, y = one
    u, v = other
    return line_of(2 * (u - x), 2 * (v - y), u * u + v * v - x * x - y * y)


def excess(line, point):
    """Tell by how much a x + b y is more than c at the point, times the point's last number."""
    return line[0] * point[0] + line[1] * point[1] - line[2] * point[2]


def place(line, point):
    """Tell -1, 0 or 1: the point lies behind the line, on it, or before it."""
    return sign(excess(line, point))


def meet(one, other):
    """Tell the point that is on both lines, or None where there is none or more than one."""
    a, b, c = one
    d, e, f = other
    if a * e == b * d:
        return None
    return point_of(c * e - b * f, a * f - c * d, a * e - b * d)
