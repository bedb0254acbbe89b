"""The exact ranges of the channels over boxes of any size, and the vectors that reach them."""

from liftsteps.boxes import check_box, check_channel, vectors_of
from liftsteps.chains import Chain
from liftsteps.errors import InvalidNumber
from liftsteps.maps import linear_part


def ranges(chain, box):
    """Return, for each row, the list of the least and the greatest value of each channel over a box."""
    check_box(chain.channels, box)
    return [_row_ranges(part, box) for part in _parts(chain)]


def ends(chain, box, channel):
    """Return the first vectors of a box with the least and with the greatest value of a channel."""
    check_box(chain.channels, box)
    check_channel(chain.channels, channel)
    weights = linear_part(chain).rows[channel]
    return (_first_least(chain, box, channel, weights), _first_greatest(chain, box, channel, weights))


def first_outside(chain, box, low, high):
    """Return the first row and channel with a value beyond low or high over a box, None if there is none."""
    check_box(chain.channels, box)
    if high < low:
        raise InvalidNumber(high)
    for row, part in enumerate(_parts(chain)):
        for channel, (least, greatest) in enumerate(_row_ranges(part, box)):
            if least < low or greatest > high:
                return (row, channel)
    return None


def _parts(chain):
    """Return the chains that lead to each row: those of the first steps, none to all of them."""
    steps = chain.steps
    return [Chain(chain.channels, steps[:many]) for many in range(len(steps) + 1)]


def _row_ranges(chain, box):
    """Return the tuples of the least and the greatest value of each channel of the last row."""
    found = []
    for channel, weights in enumerate(linear_part(chain).rows):
        least = chain.at(_first_least(chain, box, channel, weights))
        greatest = chain.at(_first_greatest(chain, box, channel, weights))
        found.append((least[channel], greatest[channel]))
    return found


def _first_least(chain, box, channel, weights):
    corner = _corner(box, chain.grid(), weights)
    return min(vectors_of(corner), key=lambda vector: chain.at(vector)[channel])


def _first_greatest(chain, box, channel, weights):
    corner = _corner(box, chain.grid(), [-weight for weight in weights])
    return max(vectors_of(corner), key=lambda vector: chain.at(vector)[channel])


def _corner(box, grid, weights):
    """Return the corner of a box that has the first vector with the least value of a channel.

    By one grid along an axis the channel grows by a multiple of the weight there. So of
    the vectors that differ by grids the lowest one has the least value, or for a weight
    below 0 the highest one; and with a weight of 0 all have it, and the lowest is the first.
    """
    corner = []
    for (low, high), weight in zip(box, weights):
        if weight < 0:
            corner.append((max(low, high - grid + 1), high))
        else:
            corner.append((low, min(high, low + grid - 1)))
    return corner
