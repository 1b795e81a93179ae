"""Farthest lands, and the least ring round all spots."""

from nearlands.fields import box_field, cut_each
from nearlands.lines import between, meet
from nearlands.points import less, point_of, scaled_square, spot_point, square
from nearlands.spots import check_box_and_spots, check_spots, others_of


def far_lands(box, spots):
    """Tell for each spot the field of the points of the box to which no other is farther, None without an inside."""
    check_box_and_spots(box, spots)
    return [far_land(box, spots, number) for number in range(len(spots))]


def far_land(box, spots, number):
    """Tell the farthest land of a spot, of a box and spots that aren't refused."""
    cuts = [(between(spots[other], spots[number]), other) for other in others_of(spots, number)]
    return cut_each(box_field(box), cuts)


def least_ring(spots):
    """Tell the point from which the farthest spot is least far, the square of the way, and all that are so far."""
    check_spots(spots)
    rows = [(centre, farthest(spots, centre)) for centre in ring_centres(spots)]
    least = rows[0]
    for row in rows:
        if less(row[1], least[1]):
            least = row
    centre = least[0]
    ways = [scaled_square(centre, spot) for spot in spots]
    on = [number for number, way in enumerate(ways) if way == max(ways)]
    return (centre, square(centre, spots[on[0]]), on)


def farthest(spots, point):
    """Tell the square of the way from the point to the farthest spot, top and bottom not in lowest terms."""
    return (max([scaled_square(point, spot) for spot in spots]), point[2] ** 2)


def ring_centres(spots):
    """Tell points among which the centre of the least ring is."""
    # A ring that can't be less is held by two spots across from one another, by three, or is one spot alone.
    centres = [spot_point(spots[0])]
    for one in range(len(spots)):
        for other in range(one):
            centres.append(middle(spots[one], spots[other]))
            for third in range(other):
                centre = meet(between(spots[one], spots[other]), between(spots[one], spots[third]))
                if centre is not None:
                    centres.append(centre)
    return centres


def middle(one, other):
    """Tell the point amid two spots."""
    return point_of(one[0] + other[0], one[1] + other[1], 2)
