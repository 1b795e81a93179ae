"""The web of neighbours, without a box: reaches, ties, rings, and the rim."""

from nearlands.errors import NoSpot
from nearlands.fields import box_field
from nearlands.lands import cut_off
from nearlands.orders import ordered, rising
from nearlands.points import fraction_of, less, nearest_of, point_of, spot_point, square, turn
from nearlands.spots import by_place, check_box_and_spots, check_number, check_spots, others_of


def reach(spots, one, other):
    """Tell the ends of the reach of two spots, None in the place of one without end; None where they aren't tied."""
    check_spots(spots)
    check_number(spots, one)
    check_number(spots, other)
    if one == other:
        raise NoSpot(other)
    return reach_within(spots, one, other)


def reach_within(spots, one, other):
    """Tell the reach of two unlike numbers, of spots that aren't refused."""
    first = spots[one]
    second = spots[other]
    start = None
    end = None
    for third in spots:
        slope, rise = lead(first, second, third)
        if slope == 0:
            if rise < 0:
                return None
            continue
        place = fraction_of(-rise, slope)
        if slope > 0 and (start is None or less(start, place)):
            start = place
        if slope < 0 and (end is None or less(place, end)):
            end = place
    if start is not None and end is not None and not less(start, end):
        return None
    return (point_along(first, second, start), point_along(first, second, end))


def lead(first, second, third):
    """Tell by how much the square of the way to the third spot is more than to the first, along the line between two.

    At t steps from the middle of the first two spots it is slope t + rise. A step is as long as the way from the first
    to the second, and who goes it has the first to the left. Both are 0 where the third is one of the two.
    """
    x, y = first
    u, v = second
    a, b = third
    slope = 2 * ((y - v) * (x - a) + (u - x) * (y - b))
    rise = (x + u) * (x - a) + (y + v) * (y - b) + a * a + b * b - x * x - y * y
    return slope, rise


def point_along(first, second, place):
    """Tell the point that is so many steps, a fraction, from the middle of two spots; None for None."""
    if place is None:
        return None
    x, y = first
    u, v = second
    top, bottom = place
    return point_of((x + u) * bottom + 2 * (y - v) * top, (y + v) * bottom + 2 * (u - x) * top, 2 * bottom)


def reaches(spots):
    """Tell of all pairs that are tied, rising, the tuple of their two numbers and the ends of their reach."""
    told = []
    for one in range(len(spots)):
        for other in range(one + 1, len(spots)):
            ends = reach_within(spots, one, other)
            if ends is not None:
                told.append((one, other, ends))
    return told


def ties(spots):
    """Tell the pairs of spots that are tied."""
    check_spots(spots)
    return [(one, other) for one, other, ends in reaches(spots)]


def tied_to(spots, number):
    """Tell the numbers of the spots that are tied to the one of the number, of spots that aren't refused."""
    return [other for other in others_of(spots, number) if reach_within(spots, number, other) is not None]


def rings(spots):
    """Tell the points that have three or more nearest spots, with the square of the way to them, and them."""
    check_spots(spots)
    # Round a point with three or more nearest spots each and the next one are tied, and their reach ends there.
    centres = [end for one, other, ends in reaches(spots) for end in ends if end is not None]
    told = []
    for centre in rising(centres):
        around = in_turn(spots, nearest_of(spots, centre))
        told.append((centre, square(centre, spots[around[0]]), around))
    return told


def in_turn(spots, numbers):
    """Tell the rising numbers of spots on one ring in the order in which they lie on it, from the least on."""
    first = numbers[0]
    # Seen from one spot of a ring, the others lie the more to the left the later they come.
    return [first] + ordered(numbers[1:], lambda one, other: spot_turn(spots, first, one, other) == 1)


def spot_turn(spots, one, other, third):
    """Tell the turn of the spots of three numbers."""
    return turn(spot_point(spots[one]), spot_point(spots[other]), spot_point(spots[third]))


def rim(spots):
    """Tell the spots at which one comes by as one goes round all of them."""
    check_spots(spots)
    if len(spots) == 1:
        return [0]
    order = by_place(spots)
    there = outer_way(spots, order)
    again = outer_way(spots, order[::-1])
    return there[:-1] + again[:-1]


def outer_way(spots, order):
    """Tell those of the ordered spots by which one comes from the first to the last, none being to the right."""
    way = []
    for number in order:
        while len(way) > 1 and spot_turn(spots, way[-2], way[-1], number) < 0:
            way.pop()
        way.append(number)
    return way


def cut_by(box, spots, ties):
    """Tell the fields that come when for each spot the box is cut by the lines between it and those it is tied to."""
    check_box_and_spots(box, spots)
    told = []
    for number in range(len(spots)):
        others = [other for one, other in ties if one == number] + [one for one, other in ties if other == number]
        told.append(cut_off(box_field(box), spots, number, others))
    return told
