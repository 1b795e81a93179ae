"""The looker, who makes no field: whether a thing is one, and whether a list of them is the one that is told.

A limit is a function that tells of the numbers of two spots the line behind which the first one's points lie.
"""

from nearlands.fields import area
from nearlands.lines import between, place
from nearlands.points import ahead, difference, turn
from nearlands.spots import check_box_and_spots
from nearlands.weights import check_weights, like_measure
from nearlands.whole import divisor, is_whole


def is_field(thing):
    """Tell whether the thing is a field."""
    if not isinstance(thing, tuple) or len(thing) != 2:
        return False
    corners, edges = thing
    if not isinstance(corners, list) or not isinstance(edges, list):
        return False
    if len(corners) < 3 or len(corners) != len(edges):
        return False
    right_kinds = all(is_whole(edge) for edge in edges) and all(is_point(corner) for corner in corners)
    return right_kinds and goes_round(corners)


def is_point(thing):
    """Tell whether the thing is a point."""
    if not isinstance(thing, tuple) or len(thing) != 3 or not all(is_whole(number) for number in thing):
        return False
    x, y, w = thing
    return w >= 1 and divisor(divisor(w, x), y) == 1


def goes_round(corners):
    """Tell whether the way by the points turns to the left at each, goes round once, and begins at the first of all."""
    following = corners[1:] + corners[:1]
    turns = [turn(one, other, third) for one, other, third in zip(corners, following, corners[2:] + corners[:2])]
    if min(turns) < 1:
        return False
    # Each time it goes round, such a way leads onward, each corner ahead of the next, and then back again. Once round
    # from the corner ahead of all others, all its steps onward come first.
    onward = [ahead(one, other) for one, other in zip(corners, following)]
    return onward == sorted(onward, reverse=True)


def is_lands(box, spots, thing):
    """Tell whether the thing is the list of the lands."""
    check_box_and_spots(box, spots)
    return is_parting(box, len(spots), thing, lambda one, other: between(spots[one], spots[other]))


def is_far(box, spots, thing):
    """Tell whether the thing is the list of the farthest lands."""
    check_box_and_spots(box, spots)
    return is_parting(box, len(spots), thing, lambda one, other: between(spots[other], spots[one]))


def is_weighted(box, spots, weights, thing):
    """Tell whether the thing is the list of the lands with weights."""
    check_weights(box, spots, weights)
    return is_parting(box, len(spots), thing, lambda one, other: like_measure(spots, weights, one, other))


def is_parting(box, count, thing, limit):
    """Tell whether the thing is the list, of so many fields or None, into which the limits part the box."""
    if not isinstance(thing, list) or len(thing) != count:
        return False
    if not all(field is None or is_field(field) for field in thing):
        return False
    # A field with no edge but on its limits has all that is its spot's among those that have one, and maybe more. As
    # these parts come to the box, fields that come to it, too, have no more.
    numbers = [number for number, field in enumerate(thing) if field is not None]
    return all(is_limited(box, thing, number, limit) for number in numbers) and covers(box, thing)


def is_limited(box, fields, number, limit):
    """Tell whether a field's edges lie on the lines by which they are called, and a spot without one has none of it."""
    corners, edges = fields[number]
    for start, end, called in zip(corners, corners[1:] + corners[:1], edges):
        line = edge_line(box, fields, number, called, limit)
        if line is None or place(line, start) != 0 or place(line, end) != 0 or not lies_behind(corners, line):
            return False
    without = [other for other, field in enumerate(fields) if field is None]
    return all(lies_behind(corners, limit(number, other)) for other in without)


def edge_line(box, fields, number, called, limit):
    """Tell the line on which an edge that is called so lies, None where no edge of the field may be called so."""
    if -4 <= called < 0:
        return side_line(box, called)
    if called < 0 or called >= len(fields) or called == number or fields[called] is None:
        return None
    return limit(number, called)


def side_line(box, called):
    """Tell the line of a side of the box, the box behind it."""
    x, y, u, v = box
    sides = [(0, -1, -y), (1, 0, u), (0, 1, v), (-1, 0, -x)]
    return sides[-1 - called]


def lies_behind(corners, line):
    """Tell whether no corner lies before the line."""
    return all(place(line, corner) <= 0 for corner in corners)


def covers(box, fields):
    """Tell whether the areas of the fields, of those that aren't None, come to the box's."""
    x, y, u, v = box
    left = ((u - x) * (v - y), 1)
    for field in fields:
        if field is not None:
            left = difference(left, area(field))
    return left == (0, 1)
