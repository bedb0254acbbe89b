"""Sums, counts and sorted values of a channel over boxes of any size."""

from math import gcd

from liftsteps.boxes import check_box, check_channel, check_two, crossed
from liftsteps.columns import columns_behind, columns_of
from liftsteps.cosets import cell_counts, cells_of, spans_of, sure_periods, unit_basis
from liftsteps.errors import InvalidNumber
from liftsteps.integers import ceiling, dot
from liftsteps.lines import pairs_at_most
from liftsteps.maps import linear_part, rests_of


def sum_of(chain, box, channel):
    """Return the sum of a channel of F over all vectors of a box."""
    check_box(chain.channels, box)
    check_channel(chain.channels, channel)
    part = linear_part(chain)
    sure = sure_periods(chain.steps, unit_basis(chain.channels))
    rests = rests_of(chain, cells_of(sure))
    # Low and high together are twice the mean of an entry.
    total = _size_of(box) * dot(part.rows[channel], [low + high for low, high in box]) // 2
    for cell, count in cell_counts(sure, box).items():
        total = total + count * rests[cell][channel]
    return total // part.bottom


def count_at_most(chain, box, channel, value):
    """Return the number of the vectors of a box for which a channel of F is at most a value."""
    check_two(chain.channels)
    check_box(chain.channels, box)
    check_channel(chain.channels, channel)
    slopes, parts = _even_parts(chain, box, channel)
    return _count(slopes, parts, value)


def nth_value(chain, box, channel, number):
    """Return the value with a number in the ascending list of a channel of F of all vectors of a box."""
    check_two(chain.channels)
    check_box(chain.channels, box)
    check_channel(chain.channels, channel)
    if number < 0 or number >= _size_of(box):
        raise InvalidNumber(number)
    slopes, parts = _even_parts(chain, box, channel)
    first, last = _near_values(chain, box, channel, number)
    return _least_integer(first, last, lambda value: _count(slopes, parts, value) > number)


def _size_of(box):
    size = 1
    for low, high in box:
        size = size * (high - low + 1)
    return size


def _even_parts(chain, box, channel):
    """Return the slopes of a channel along both axes by one span, and the parts of a box with evenly spread values.

    A part has the vectors that differ by multiples of the spans from one at the low ends. It is
    told by its numbers of vectors along both axes and the value at its low ends.
    """
    spans = spans_of(sure_periods(chain.steps, unit_basis(2)))
    part = linear_part(chain)
    slopes = [span * weight // part.bottom for span, weight in zip(spans, part.rows[channel])]
    firsts = crossed([list(range(low, min(high, low + span - 1) + 1)) for (low, high), span in zip(box, spans)])
    values = columns_behind(chain.steps, columns_of(firsts))[channel]
    parts = []
    for vector, value in zip(firsts, values):
        lengths = [(high - entry) // span + 1 for (_, high), entry, span in zip(box, vector, spans)]
        parts.append((lengths[0], lengths[1], value))
    return (slopes, parts)


def _count(slopes, parts, value):
    """Return how many vectors of the parts have at most a value."""
    common = gcd(slopes[0], slopes[1])
    # Values grow by multiples of the common divisor, so that many parts have the same count.
    alike = {}
    for many, others, first in parts:
        key = (many, others, (value - first) // common)
        alike[key] = alike.get(key, 0) + 1
    slope, other = slopes[0] // common, slopes[1] // common
    total = 0
    for (many, others, limit), times in alike.items():
        total = total + times * pairs_at_most((many, others), (slope, other), limit)
    return total


def _near_values(chain, box, channel, number):
    """Return two values, the one with a number between them: by the linear part, with the least and the most rest."""
    part = linear_part(chain)
    lengths = [high - low + 1 for low, high in box]
    row = part.rows[channel]
    start = dot(row, [low for low, _ in box])
    corners = [dot(row, corner) for corner in crossed(box)]
    level = _least_integer(
        min(corners), max(corners), lambda middle: pairs_at_most(lengths, row, middle - start) > number,
    )
    rests = rests_of(chain, cells_of(sure_periods(chain.steps, unit_basis(2))))
    added = [rest[channel] for rest in rests.values()]
    return (ceiling(level + min(added), part.bottom), ceiling(level + max(added), part.bottom))


def _least_integer(low, high, holds):
    """Return the least integer from low to high for which a condition holds that holds from there on, and at high."""
    while low < high:
        middle = (low + high) // 2
        if holds(middle):
            high = middle
        else:
            low = middle + 1
    return low
