"""The exact ranges of the channels over boxes of any size, and the vectors that reach them."""

from liftsteps.boxes import check_box, check_channel, crossed
from liftsteps.columns import columns_behind, columns_of, step_columns
from liftsteps.cosets import spans_of, sure_periods, unit_basis
from liftsteps.errors import InvalidNumber


def ranges(chain, box):
    """Return, for each row, the list of the least and the greatest value of each channel over a box."""
    check_box(chain.channels, box)
    columns = columns_of(_edge_vectors(chain, box))
    found = [_ends_of(columns)]
    for step in chain.steps:
        columns = step_columns(step, columns)
        found.append(_ends_of(columns))
    return found


def ends(chain, box, channel):
    """Return the first vectors of a box with the least and with the greatest value of a channel."""
    check_box(chain.channels, box)
    check_channel(chain.channels, channel)
    vectors = _edge_vectors(chain, box)
    values = columns_behind(chain.steps, columns_of(vectors))[channel]
    return (vectors[values.index(min(values))], vectors[values.index(max(values))])


def first_outside(chain, box, low, high):
    """Return the first row and channel with a value beyond low or high over a box, None if there is none."""
    check_box(chain.channels, box)
    if high < low:
        raise InvalidNumber(high)
    for row, pairs in enumerate(ranges(chain, box)):
        for channel, (least, greatest) in enumerate(pairs):
            if least < low or greatest > high:
                return (row, channel)
    return None


def _ends_of(columns):
    return [(min(column), max(column)) for column in columns]


def _edge_vectors(chain, box):
    """Return, in ascending order, vectors of a box that have the first ones with the ends of all channels in all rows.

    By the span of an axis each channel grows by the same from all vectors. So of the vectors
    that differ by spans along it the least value is at one of both ends of the box, and the
    greatest one at the other; or they are all the same, and the first vector is at the low end.
    """
    spans = spans_of(sure_periods(chain.steps, unit_basis(chain.channels)))
    return crossed([_edge(low, high, span) for (low, high), span in zip(box, spans)])


def _edge(low, high, span):
    """Return, in ascending order, the integers of an axis that are less than a span from one of its ends."""
    if high - low < 2 * span:
        return list(range(low, high + 1))
    return list(range(low, low + span)) + list(range(high - span + 1, high + 1))
