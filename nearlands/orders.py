"""Lists in an order that is told by comparing two things at a time."""

from nearlands.points import ahead


def ordered(things, before):
    """Tell the things such that none is before the one ahead of it; those of which neither is stay as they came."""
    told = []
    for thing in things:
        at = len(told)
        while at > 0 and before(thing, told[at - 1]):
            at -= 1
        told.insert(at, thing)
    return told


def rising(points):
    """Tell the points, each once, in rising order."""
    return ordered(sorted(set(points)), ahead)
