"""Fields: what is left of them behind a line, and their areas."""

from nearlands.lines import excess
from nearlands.points import ahead, fraction_of, point_of
from nearlands.spots import check_box


def box_field(box):
    """Tell the field of a box, its edges called -1 (lower), -2 (right), -3 (upper) and -4 (left)."""
    check_box(box)
    x, y, u, v = box
    return ([(x, y, 1), (u, y, 1), (u, v, 1), (x, v, 1)], [-1, -2, -3, -4])


def cut(field, line, number):
    """Tell the field of the points that aren't before the line, None where it would have no inside."""
    corners, edges = field
    excesses = [excess(line, corner) for corner in corners]
    if max(excesses) <= 0:
        return (list(corners), list(edges))
    if min(excesses) >= 0:
        return None
    return from_first(rest(corners, edges, excesses, number))


def cut_each(field, cuts):
    """Tell what of the field isn't before any line of the cuts, tuples (line, number); None where it has no inside."""
    for line, number in cuts:
        if field is None:
            return None
        field = cut(field, line, number)
    return field


def rest(corners, edges, excesses, number):
    """Tell the corners of what is left behind a line that goes through the inside, each with its edge."""
    left = []
    for at, corner in enumerate(corners):
        following = (at + 1) % len(corners)
        here = excesses[at]
        there = excesses[following]
        # The edge along the line begins where the way round goes over to what is before the line.
        if here < 0 or here == 0 and there <= 0:
            left.append((corner, edges[at]))
        elif here == 0:
            left.append((corner, number))
        if here < 0 and there > 0:
            left.append((crossing(corner, corners[following], here, there), number))
        elif here > 0 and there < 0:
            left.append((crossing(corner, corners[following], here, there), edges[at]))
    return left


def crossing(one, other, here, there):
    """Tell the point of a line between two points on its two sides, whose excesses are here and there."""
    # Each point counts for as much as the other one's excess, so that the excess of the sum is 0.
    return point_of(
        one[0] * there - other[0] * here,
        one[1] * there - other[1] * here,
        one[2] * there - other[2] * here,
    )


def from_first(rows):
    """Tell the field of corners with their edges in their order, beginning at the corner ahead of all others."""
    first = 0
    for at, row in enumerate(rows):
        if ahead(row[0], rows[first][0]):
            first = at
    turned = rows[first:] + rows[:first]
    return ([row[0] for row in turned], [row[1] for row in turned])


def area(field):
    """Tell the area of the field."""
    corners = field[0]
    top = 0
    bottom = 1
    for one, other in zip(corners, corners[1:] + corners[:1]):
        part = one[0] * other[1] - other[0] * one[1]
        scale = one[2] * other[2]
        top, bottom = fraction_of(top * scale + part * bottom, bottom * scale)
    # The parts come to twice the area.
    return fraction_of(top, 2 * bottom)
