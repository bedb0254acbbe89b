"""Arithmetic over integers and rows of integers that several files share."""

from math import gcd


def fraction(top, bottom):
    """Return top / bottom in lowest terms, for a bottom of at least 1."""
    common = gcd(top, bottom)
    return (top // common, bottom // common)


def ceiling(top, bottom):
    """Return top / bottom rounded up, for a bottom of at least 1."""
    return -(-top // bottom)


def dot(first, second):
    """Return the sum of the products of the integers of two rows."""
    return sum([one * other for one, other in zip(first, second)])


def plus(first, second):
    """Return the vector of the sums of the entries of two vectors."""
    return tuple([one + other for one, other in zip(first, second)])


def minus(first, second):
    """Return the vector of what the entries of a vector are greater by than those of a second one."""
    return tuple([one - other for one, other in zip(first, second)])


def multiple(times, vector):
    """Return a vector so many times."""
    return tuple([times * entry for entry in vector])


def image_of(rows, vector):
    """Return the product of rows of integers and a vector."""
    return tuple([dot(row, vector) for row in rows])
