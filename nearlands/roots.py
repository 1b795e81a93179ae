"""Numbers with a root, and how they compare.

A root number is a tuple (p, s, q, r) of whole numbers: p and s times the root of q more, all by r. s is 1 or -1, q is
from 0 on, and r is from 1 on.
"""

from nearlands.whole import sign


def sign_with_root(p, s, q):
    """Tell the sign of p and s times the root of q more."""
    # Numbers lie to one another as their squares do, where each square has the sign of its number.
    return sign(p * abs(p) + s * q)


def sign_with_roots(p, s, q, t, u):
    """Tell the sign of p, s times the root of q and t times the root of u, taken together."""
    # Again by squares with signs: that of both roots together is q and u and 2 s t times the root of q u.
    side = sign(s * q + t * u)
    return sign_with_root(p * abs(p) + side * (q + u), side * s * t, 4 * q * u)


def compare_roots(one, other):
    """Tell 1, -1 or 0: the one root number is greater than the other, less, or the same."""
    p, s, q, r = one
    a, t, u, b = other
    return sign_with_roots(p * b - a * r, s, q * b * b, -t, u * r * r)
