"""Charts of named spots that come, move and go."""

from nearlands.errors import NoDeed, NoName, NoSpot, Taken, TooMany, Unknown
from nearlands.lands import land_within
from nearlands.spots import MOST_SPOTS, check_box, in_box

MOST_LETTERS = 8


def check_name(name):
    """Refuse a text that is no name."""
    small = all("a" <= letter <= "z" for letter in name)
    if not small or len(name) == 0 or len(name) > MOST_LETTERS:
        raise NoName("a name has one to eight small letters")


def named(field, names):
    """Tell the field with names in the place of the numbers of spots."""
    corners, edges = field
    return (corners, [edge if edge < 0 else names[edge] for edge in edges])


def named_lands(box, places):
    """Tell the land of each name, of a dict from names to spots."""
    names = list(places)
    spots = [places[name] for name in names]
    return {name: named(land_within(box, spots, number), names) for number, name in enumerate(names)}


class Chart:
    """A box with named spots, and the deeds by which they came to be as they are."""

    def __init__(self, box):
        check_box(box)
        self.bounds = box
        self.places = {}
        # Of each deed that may be taken back its name, and where the spot was ahead of it (None: nowhere).
        self.deeds = []

    def put(self, name, spot):
        """Put a spot there; tell the names of the others whose land that changes."""
        check_name(name)
        if name in self.places:
            raise Taken("there is a spot of this name")
        if len(self.places) >= MOST_SPOTS:
            raise TooMany("there are twelve spots")
        self.check_free(name, spot)
        return self.do(name, spot)

    def move(self, name, dx, dy):
        """Move a spot by so much; tell the names of the others whose land that changes."""
        self.check_known(name)
        x, y = self.places[name]
        spot = (x + dx, y + dy)
        self.check_free(name, spot)
        return self.do(name, spot)

    def go(self, name):
        """Let a spot go; tell the names of the others whose land that changes."""
        self.check_known(name)
        return self.do(name, None)

    def back(self):
        """Take back the last deed; tell the names of the others whose land that changes."""
        if len(self.deeds) == 0:
            raise NoDeed("there is no deed to take back")
        name, spot = self.deeds.pop()
        return self.settle(name, spot)

    def box(self):
        """Tell the box."""
        return self.bounds

    def spots(self):
        """Tell the spot of each name."""
        return dict(self.places)

    def lands(self):
        """Tell the land of each name."""
        return named_lands(self.bounds, self.places)

    def land(self, name):
        """Tell the land of the name."""
        self.check_known(name)
        return self.lands()[name]

    def check_known(self, name):
        """Refuse what is no name, and a name that isn't there."""
        check_name(name)
        if name not in self.places:
            raise Unknown("there is no spot of this name")

    def check_free(self, name, spot):
        """Refuse a place for the name's spot that is beyond the box or another's."""
        others = [self.places[other] for other in self.places if other != name]
        if not in_box(self.bounds, spot) or spot in others:
            raise NoSpot(None)

    def do(self, name, spot):
        """Do a deed that isn't refused, such that it can be taken back."""
        self.deeds.append((name, self.places.get(name)))
        return self.settle(name, spot)

    def settle(self, name, spot):
        """Have the name's spot there, or nowhere for None; tell the other names whose land that changes."""
        earlier = self.lands()
        if spot is None:
            del self.places[name]
        else:
            self.places[name] = spot
        later = self.lands()
        return [other for other in sorted(later) if other != name and later[other] != earlier[other]]
