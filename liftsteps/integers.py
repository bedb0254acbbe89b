"""Arithmetic over integers that several files share."""

from math import gcd


def fraction(top, bottom):
    """Return top / bottom in lowest terms, for a bottom of at least 1."""
    common = gcd(top, bottom)
    return (top // common, bottom // common)


def dot(first, second):
    """Return the sum of the products of the integers of two rows."""
    return sum([one * other for one, other in zip(first, second)])
