"""Whole numbers: what is one, what divides them, and their signs."""


def is_whole(thing):
    """Tell whether the thing is a whole number."""
    return isinstance(thing, int) and not isinstance(thing, bool)


def divisor(one, other):
    """Tell the greatest number that divides both, 0 where both are 0."""
    one = abs(one)
    other = abs(other)
    while other != 0:
        one, other = other, one % other
    return one


def sign(number):
    """Tell -1, 0 or 1: whether the number is below 0, is 0, or is above 0."""
    if number < 0:
        return -1
    if number > 0:
        return 1
    return 0
