"""The front of a level line that goes up over spots, and what the line passes."""

from nearlands.orders import ordered
from nearlands.points import fraction_of
from nearlands.roots import compare_roots
from nearlands.spots import by_place, check_spots
from nearlands.webs import rings


def front(spots, height):
    """Tell the spots of the arcs of the front at the height, from left to right."""
    check_spots(spots)
    top, bottom = height
    lower = [number for number, spot in enumerate(spots) if spot[1] * bottom < top]
    arcs = []
    for number in lower:
        others = [spots[other] for other in lower if other != number]
        for start, end in stretches(spots[number], others, height):
            arcs.append((start, number))
    return [number for start, number in ordered(arcs, begins_before)]


def begins_before(one, other):
    """Tell whether the one arc begins to the left of the other."""
    if one[0] is None or other[0] is None:
        return other[0] is not None
    return compare_roots(one[0], other[0]) < 0


def stretches(spot, others, height):
    """Tell where the spot's points at the height are no lower than the others'.

    A stretch is a tuple of its two ends, root numbers, None in the place of an end where it goes on without end; one of
    a single point is left out.
    """
    left = [(None, None)]
    for other in others:
        parts = no_lower(spot, other, height)
        shared = [overlap(one, part) for one in left for part in parts]
        left = [stretch for stretch in shared if is_long(stretch)]
    return left


def no_lower(one, other, height):
    """Tell the stretches where the one spot's points at the height are no lower than the other's."""
    if one[1] == other[1]:
        middle = (one[0] + other[0], 1, 0, 2)
        return [(None, middle)] if one[0] < other[0] else [(middle, None)]
    start, end = crossings(one, other, height)
    # The higher spot is nearer to the line: its points make the narrower curve.
    return [(start, end)] if one[1] > other[1] else [(None, start), (end, None)]


def crossings(one, other, height):
    """Tell the two places, from left to right, where the points of two spots of unlike heights are the same.

    The points of a spot (a, b) that lies c below the line stand where 2 y is the height and b, less the square of x - a
    by c. So those of two spots, c and d below it, are the same where (c - d) x x - 2 p x + o is 0; with r for c - d and
    q for p p - r o the places are at p less the root of q by r, and at p and the root of q by r.
    """
    top, bottom = height
    # To have whole numbers, c, d, p and r stand here times the bottom, and q times its square: the places stay.
    c = top - bottom * one[1]
    d = top - bottom * other[1]
    across = one[0] - other[0]
    up = one[1] - other[1]
    p = other[0] * c - one[0] * d
    q = c * d * (across * across + up * up)
    r = c - d
    if r < 0:
        p, r = -p, -r
    return (p, -1, q, r), (p, 1, q, r)


def overlap(one, other):
    """Tell what two stretches share, where they do."""
    start, end = one
    if start is None or other[0] is not None and compare_roots(start, other[0]) < 0:
        start = other[0]
    if end is None or other[1] is not None and compare_roots(other[1], end) < 0:
        end = other[1]
    return (start, end)


def is_long(stretch):
    """Tell whether the stretch has more than one point."""
    start, end = stretch
    return start is None or end is None or compare_roots(start, end) < 0


def height_root(height):
    """Tell a height, a tuple of a fraction and the fraction whose root is more, as a root number."""
    (top, bottom), (inner, below) = height
    # The root of inner by below is that of inner times below, by below.
    return (top * below, 1, inner * below * bottom * bottom, bottom * below)


def higher(one, other):
    """Tell 1, -1 or 0: the one height is higher than the other, lower, or the same."""
    return compare_roots(height_root(one), height_root(other))


def passes(spots):
    """Tell what the rising line passes, from the lowest on."""
    check_spots(spots)
    rows = [(((spots[number][1], 1), (0, 1)), ("spot", number)) for number in by_place(spots)]
    for centre, way, around in rings(spots):
        rows.append(((fraction_of(centre[1], centre[2]), way), ("ring", centre)))
    # Those of the same height stay as they came: spots by rising x, and behind them rings by rising centres.
    return [row[1] for row in ordered(rows, passed_before)]


def passed_before(one, other):
    """Tell whether the one is passed at a lower height than the other."""
    return higher(one[0], other[0]) < 0
