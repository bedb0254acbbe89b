"""Vectors by classes: what a chain makes of one vector of a class tells what it makes of all.

A sure period of a chain is a vector at which no division of its plain steps leaves a remainder.
Behind it all rows go on as without rounding. Each division bars at most as many classes as its
divisor tells, so that there are no more classes than the product of all divisors.

A basis is a list of vectors, of which number i begins with i zeros and then has an entry of at
least 1. A class holds the vectors that differ by sums and differences of a basis. Its cell is
the one vector of it with entries from 0 to one less than these entries.
"""

from math import gcd

from liftsteps.boxes import vectors_of
from liftsteps.integers import dot
from liftsteps.steps import apply_step, plain_step


def unit_basis(channels):
    """Return the basis of all vectors."""
    return [tuple([1 if place == number else 0 for place in range(channels)]) for number in range(channels)]


def sure_periods(steps, basis):
    """Return a basis of the sure periods of steps, of those vectors that a basis makes."""
    images = basis
    for step in steps:
        if step[0] == "lift":
            shares = [dot(step[2], image) for image in images]
            mixes = _mixes(shares, step[4])
            basis = [_mixed(mix, basis) for mix in mixes]
            images = [_mixed(mix, images) for mix in mixes]
        images = [apply_step(plain_step(step), image) for image in images]
    return basis


def multiples_at(basis, place, number):
    """Return a basis of those vectors that a basis makes whose entry at a place is a multiple of a number."""
    return [_mixed(mix, basis) for mix in _mixes([vector[place] for vector in basis], number)]


def cell_of(basis, vector):
    """Return the cell of the class of a vector."""
    left = list(vector)
    for place, period in enumerate(basis):
        times = left[place] // period[place]
        if times != 0:
            left = [entry - times * growth for entry, growth in zip(left, period)]
    return tuple(left)


def cells_of(basis):
    """Return the list of all cells, in ascending order."""
    return vectors_of([(0, period[place] - 1) for place, period in enumerate(basis)])


def spans_of(basis):
    """Return, for each place, the least number of at least 1 by which the entry there may grow alone."""
    return [_span(basis, unit) for unit in unit_basis(len(basis))]


def cell_counts(basis, box):
    """Return, by cell, how many vectors of a box are of its class; cells without any are left out."""
    counts = {(0,) * len(basis): 1}
    spans = spans_of(basis)
    for place, (low, high) in enumerate(box):
        grown = {}
        for entry in range(low, min(high, low + spans[place] - 1) + 1):
            # All entries that differ by the span of a place lead to one class.
            many = (high - entry) // spans[place] + 1
            for cell, count in counts.items():
                moved = cell_of(basis, cell[:place] + (cell[place] + entry,) + cell[place + 1:])
                grown[moved] = grown.get(moved, 0) + count * many
        counts = grown
    return counts


def _mixes(shares, divisor):
    """Return the basis of the numbers by which to mix vectors so that their shares have a multiple of the divisor."""
    mixes = []
    left = divisor
    for place in reversed(range(len(shares))):
        # What the later shares and the divisor cannot make together, this entry has to bring.
        entry = left // gcd(left, shares[place])
        mixes = [_mix(shares, divisor, place, entry, mixes)] + mixes
        left = gcd(left, shares[place])
    return mixes


def _mix(shares, divisor, place, entry, later):
    """Return the mix that begins with an entry at a place, and goes on with a cell of the later mixes."""
    tails = cells_of([mix[place + 1:] for mix in later])
    share = entry * shares[place]
    # Just one cell of the later mixes fits.
    fitting = [tail for tail in tails if (share + dot(shares[place + 1:], tail)) % divisor == 0]
    return (0,) * place + (entry,) + fitting[0]


def _mixed(mix, vectors):
    """Return the sum of vectors, each so many times as a mix tells."""
    return tuple([dot(mix, column) for column in zip(*vectors)])


def _span(basis, unit):
    """Return how often a vector has to be taken at least, to be made by a basis."""
    left, span = unit, 1
    for place, period in enumerate(basis):
        factor = period[place] // gcd(period[place], left[place])
        times = factor * left[place] // period[place]
        left = [factor * entry - times * growth for entry, growth in zip(left, period)]
        span = span * factor
    return span
