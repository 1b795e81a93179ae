"""The lands of spots in a box."""

from nearlands.fields import box_field, cut
from nearlands.lines import between
from nearlands.spots import check_box_and_spots, check_number


def land_of(box, spots, number):
    """Tell the land of the spot of the number."""
    check_box_and_spots(box, spots)
    check_number(spots, number)
    return land_within(box, spots, number)


def lands(box, spots):
    """Tell the lands of all spots."""
    check_box_and_spots(box, spots)
    return [land_within(box, spots, number) for number in range(len(spots))]


def land_within(box, spots, number):
    """Tell the land of a spot, of a box and spots that aren't refused."""
    field = box_field(box)
    for other, spot in enumerate(spots):
        if other != number:
            field = cut(field, between(spots[number], spot), other)
    return field
