"""What a spot more takes of the lands of others."""

from nearlands.fields import area, cut
from nearlands.lands import land_within
from nearlands.lines import between
from nearlands.points import difference
from nearlands.spots import check_box_and_spots


def takes(box, spots, spot):
    """Tell each spot whose land is less where one spot more is there, and by how much area."""
    check_box_and_spots(box, spots)
    check_box_and_spots(box, spots + [spot])
    told = []
    for number, other in enumerate(spots):
        whole = land_within(box, spots, number)
        left = cut(whole, between(other, spot), len(spots))
        if left != whole:
            told.append((number, difference(area(whole), area(left))))
    return told
