"""The classes of refusal."""


class LandError(ValueError):
    """Any refusal."""


class NoNumber(LandError):
    """A number that may not be 0 is 0."""


class NoLine(LandError):
    """There is no such line."""


class NoBox(LandError):
    """Four numbers that are no box."""


class TooMany(LandError):
    """No spot, or more spots than may be."""


class NoSpot(LandError):
    """A spot that may not be where it is, or a number that no spot has."""

    def __init__(self, at):
        super().__init__("no such spot may be")
        self.at = at


class NoName(LandError):
    """A text that is no name."""


class Taken(LandError):
    """A name that is there already."""


class Unknown(LandError):
    """A name that isn't there."""


class NoDeed(LandError):
    """No deed is left to take back."""


class NoLot(LandError):
    """Numbers that are no lot of the spots."""


class NoCount(LandError):
    """A count that there can't be of the spots."""


class NoWeights(LandError):
    """Not a whole number for each spot."""


class NoText(LandError):
    """A text that no such thing has."""


class NoRow(LandError):
    """A line that the desk doesn't know."""
