"""The spots that are nearest to a point, and the way to them along ties."""

from nearlands.errors import NoCount
from nearlands.points import scaled_square
from nearlands.spots import are_unlike, check_number, check_spots
from nearlands.webs import tied_to


def nearest(spots, point, count):
    """Tell so many spots, the nearest to the point first, of as near ones the lesser number first."""
    check_spots(spots)
    if count < 1 or count > len(spots):
        raise NoCount("there are not so many spots, or none is asked for")
    order = sorted(range(len(spots)), key=lambda number: scaled_square(point, spots[number]))
    return order[:count]


def walk(spots, point, number):
    """Tell the spots on the way from the one of the number to a nearest one of the point, along ties."""
    check_spots(spots)
    check_number(spots, number)
    way = [number]
    onward = step(spots, point, number)
    while onward != way[-1]:
        way.append(onward)
        onward = step(spots, point, onward)
    return way


def step(spots, point, here):
    """Tell to which spot a walk goes on from here; here itself where no tied one is nearer to the point."""
    # Of as near ones min takes the first: where one stands ahead of all, then the least number.
    return min([here] + tied_to(spots, here), key=lambda number: scaled_square(point, spots[number]))


def shows_near(spots, point, found):
    """Tell whether the numbers found are nearest spots of the point, none nearer than the one ahead of it."""
    check_spots(spots)
    if not are_unlike(spots, found):
        return False
    ways = [scaled_square(point, spot) for spot in spots]
    # No other is nearer just where theirs are the shortest of all ways; which one of as near ones is no matter.
    return [ways[number] for number in found] == sorted(ways)[:len(found)]
