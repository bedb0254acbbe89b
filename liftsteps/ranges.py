"""The exact ranges of the channels over boxes of any size, and the vectors that reach them."""

from liftsteps.boxes import check_box, check_channel, crossed
from liftsteps.columns import columns_behind, columns_of, step_columns
from liftsteps.cosets import spans_of, sure_periods, unit_basis
from liftsteps.errors import InvalidNumber
from liftsteps.maps import linear_part


def ranges(chain, box):
    """Return, for each row, the list of the least and the greatest value of each channel over a box."""
    check_box(chain.channels, box)
    columns = columns_of(_edge_vectors(chain, box))
    found = [_ends_of(columns)]
    for step in chain.steps:
        columns = step_columns(step, columns)
        found.append(_ends_of(columns))
    return found


def ends(chain, box, channel):
    """Return the first vectors of a box with the least and with the greatest value of a channel."""
    check_box(chain.channels, box)
    check_channel(chain.channels, channel)
    weights = linear_part(chain).rows[channel]
    spans = _spans(chain)
    lowest = _corner(box, spans, weights)
    highest = _corner(box, spans, [-weight for weight in weights])
    low_values = columns_behind(chain.steps, columns_of(lowest))[channel]
    high_values = columns_behind(chain.steps, columns_of(highest))[channel]
    return (lowest[low_values.index(min(low_values))], highest[high_values.index(max(high_values))])


def first_outside(chain, box, low, high):
    """Return the first row and channel with a value beyond low or high over a box, None if there is none."""
    check_box(chain.channels, box)
    if high < low:
        raise InvalidNumber(high)
    for row, pairs in enumerate(ranges(chain, box)):
        for channel, (least, greatest) in enumerate(pairs):
            if least < low or greatest > high:
                return (row, channel)
    return None


def _ends_of(columns):
    return [(min(column), max(column)) for column in columns]


def _spans(chain):
    """Return, for each axis, by how much an entry may grow so that each row grows as the linear part does."""
    return spans_of(sure_periods(chain.steps, unit_basis(chain.channels)))


def _corner(box, spans, weights):
    """Return, in ascending order, the vectors at the corner of a box that has the first one with the least value.

    By the span of an axis a channel grows by a multiple of its weight there. So of the vectors that
    differ by spans the lowest one has the least value, or for a weight below 0 the highest one; and
    with a weight of 0 all have it, and the lowest is the first.
    """
    axes = []
    for (low, high), span, weight in zip(box, spans, weights):
        if weight < 0:
            axes.append(list(range(max(low, high - span + 1), high + 1)))
        else:
            axes.append(list(range(low, min(high, low + span - 1) + 1)))
    return crossed(axes)


def _edge_vectors(chain, box):
    """Return vectors at all corners of a box, among which each channel has its ends in each row."""
    return crossed([_edge(low, high, span) for (low, high), span in zip(box, _spans(chain))])


def _edge(low, high, span):
    """Return the integers of an axis that are less than a span from one of its ends."""
    if high - low < 2 * span:
        return list(range(low, high + 1))
    return list(range(low, low + span)) + list(range(high - span + 1, high + 1))
