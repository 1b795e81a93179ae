"""Where lands meet, where the box is emptiest, and whose land has a point."""

from nearlands.lands import lands
from nearlands.orders import rising
from nearlands.points import less, nearest_of, square
from nearlands.spots import check_box_and_spots, has_point


def meetings(box, spots):
    """Tell all corners of lands, rising, each with the square of the way to its nearest spots, and these."""
    corners = [corner for field in lands(box, spots) for corner in field[0]]
    told = []
    for corner in rising(corners):
        near = nearest_of(spots, corner)
        told.append((corner, square(corner, spots[near[0]]), near))
    return told


def emptiest(box, spots):
    """Tell the greatest square of the way to the nearest spots that the box has, and all points that have it."""
    # Over a land the way to its spot is longest at corners alone.
    rows = meetings(box, spots)
    greatest = rows[0][1]
    for row in rows:
        if less(greatest, row[1]):
            greatest = row[1]
    return (greatest, [row[0] for row in rows if row[1] == greatest])


def holders(box, spots, point):
    """Tell the numbers of the spots whose land has the point."""
    check_box_and_spots(box, spots)
    if not has_point(box, point):
        return []
    return nearest_of(spots, point)
