"""Boxes and spots: what is refused wherever they are handed in, what lies in a box, and the order of spots."""

from nearlands.errors import NoBox, NoSpot, TooMany
from nearlands.points import spot_point

MOST_SPOTS = 12


def check_box(box):
    """Refuse four numbers that are no box."""
    x, y, u, v = box
    if x >= u or y >= v:
        raise NoBox("the ends of a box do not rise")


def has_point(box, point):
    """Tell whether the point lies in the box or on its sides."""
    x, y, u, v = box
    across, up, w = point
    return x * w <= across <= u * w and y * w <= up <= v * w


def in_box(box, spot):
    """Tell whether the spot lies in the box or on its sides."""
    return has_point(box, spot_point(spot))


def check_count(spots):
    """Refuse a list without spots and one of too many."""
    if len(spots) == 0 or len(spots) > MOST_SPOTS:
        raise TooMany("there is no spot, or there are more than twelve")


def check_spots(spots):
    """Refuse what is wrong with spots that are handed in without a box."""
    check_count(spots)
    for number, spot in enumerate(spots):
        if spot in spots[:number]:
            raise NoSpot(number)


def check_box_and_spots(box, spots):
    """Refuse what is wrong with a box and the spots that are to lie in it."""
    check_box(box)
    check_count(spots)
    for number, spot in enumerate(spots):
        if not in_box(box, spot) or spot in spots[:number]:
            raise NoSpot(number)


def check_number(spots, number):
    """Refuse a number that no spot has."""
    if number < 0 or number >= len(spots):
        raise NoSpot(number)


def others_of(spots, number):
    """Tell the numbers of all spots but one."""
    return [other for other in range(len(spots)) if other != number]


def are_unlike(spots, numbers):
    """Tell whether these are unlike numbers of spots, at least one."""
    if len(numbers) == 0 or len(set(numbers)) != len(numbers):
        return False
    return min(numbers) >= 0 and max(numbers) < len(spots)


def by_place(spots):
    """Tell the numbers of the spots ordered by x, then by y."""
    return sorted(range(len(spots)), key=lambda number: spots[number])
