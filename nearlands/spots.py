"""What is refused wherever a box, spots, or both are handed in."""

from nearlands.errors import NoBox, NoSpot, TooMany

MOST_SPOTS = 12


def check_box(box):
    """Refuse four numbers that are no box."""
    x, y, u, v = box
    if x >= u or y >= v:
        raise NoBox("the ends of a box do not rise")


def has_point(box, point):
    """Tell whether the point lies in the box or on its sides."""
    x, y, u, v = box
    across, up, w = point
    return x * w <= across <= u * w and y * w <= up <= v * w


def in_box(box, spot):
    """Tell whether the spot lies in the box or on its sides."""
    return has_point(box, (spot[0], spot[1], 1))


def check_count(spots):
    """Refuse a list without spots and one of too many."""
    if len(spots) == 0 or len(spots) > MOST_SPOTS:
        raise TooMany("there is no spot, or there are more than twelve")


def check_spots(spots):
    """Refuse what is wrong with spots that are handed in without a box."""
    check_count(spots)
    for number, spot in enumerate(spots):
        if spot in spots[:number]:
            raise NoSpot(number)


def check_box_and_spots(box, spots):
    """Refuse what is wrong with a box and the spots that are to lie in it."""
    check_box(box)
    check_count(spots)
    for number, spot in enumerate(spots):
        if not in_box(box, spot) or spot in spots[:number]:
            raise NoSpot(number)


def check_number(spots, number):
    """Refuse a number that no spot has."""
    if number < 0 or number >= len(spots):
        raise NoSpot(number)
