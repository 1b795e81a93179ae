"""The lands of spots in a box."""

from nearlands.fields import box_field, cut_each
from nearlands.lines import between
from nearlands.spots import check_box_and_spots, check_number, others_of


def land_of(box, spots, number):
    """Tell the land of the spot of the number."""
    check_box_and_spots(box, spots)
    check_number(spots, number)
    return land_within(box, spots, number)


def lands(box, spots):
    """Tell the lands of all spots."""
    check_box_and_spots(box, spots)
    return [land_within(box, spots, number) for number in range(len(spots))]


def land_within(box, spots, number):
    """Tell the land of a spot, of a box and spots that aren't refused."""
    return cut_off(box_field(box), spots, number, others_of(spots, number))


def cut_off(field, spots, number, others):
    """Tell what of the field, which has the spot of the number, is no nearer to any of the others."""
    return cut_each(field, [(between(spots[number], spots[other]), other) for other in others])
