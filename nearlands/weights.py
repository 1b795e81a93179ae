"""Lands of spots with weights."""

from nearlands.errors import NoWeights
from nearlands.fields import box_field, cut_each
from nearlands.lines import line_of
from nearlands.points import fraction_of, scaled_square, spot_point
from nearlands.spots import check_box_and_spots, others_of
from nearlands.whole import is_whole


def measure(point, spot, weight):
    """Tell the square of the way from the point to the spot, less the weight."""
    scale = point[2] ** 2
    return fraction_of(scaled_square(point, spot) - weight * scale, scale)


def like_measure(spots, weights, one, other):
    """Tell the line of the points by which two spots measure the same; behind it the one measures less."""
    x, y = spots[one]
    u, v = spots[other]
    more = weights[one] - weights[other]
    return line_of(2 * (u - x), 2 * (v - y), u * u + v * v - x * x - y * y + more)


def check_weights(box, spots, weights):
    """Refuse what is wrong with the box and the spots, then what isn't a list of a whole number for each spot."""
    check_box_and_spots(box, spots)
    if not isinstance(weights, list) or len(weights) != len(spots):
        raise NoWeights("weights are a list, as long as that of the spots")
    if not all(is_whole(weight) for weight in weights):
        raise NoWeights("weights are whole numbers")


def weighted(box, spots, weights):
    """Tell for each spot the field of the points of the box by which no other measures less, None without an inside."""
    check_weights(box, spots, weights)
    return [weighted_land(box, spots, weights, number) for number in range(len(spots))]


def weighted_land(box, spots, weights, number):
    """Tell the field of a spot, of a box, spots and weights that aren't refused."""
    here = spot_point(spots[number])
    others = sorted(others_of(spots, number), key=lambda other: scaled_square(here, spots[other]), reverse=True)
    # Where the lines of several others are one, just the farthest measures least beyond it; the first to cut has the
    # edge called by it.
    cuts = [(like_measure(spots, weights, number, other), other) for other in others]
    return cut_each(box_field(box), cuts)
