"""How far a chain is from its linear part, and what is lost if a channel is cut."""

from liftsteps.boxes import check_channel
from liftsteps.cosets import cells_of, multiples_at, sure_periods, unit_basis
from liftsteps.errors import InvalidNumber
from liftsteps.integers import fraction, minus
from liftsteps.maps import linear_part, rests_of


def distances(chain):
    """Return, for each channel, the least and the greatest fraction by which F is greater than the linear part."""
    bottom = linear_part(chain).bottom
    cells = cells_of(sure_periods(chain.steps, unit_basis(chain.channels)))
    rests = list(rests_of(chain, cells).values())
    return [(fraction(min(column), bottom), fraction(max(column), bottom)) for column in zip(*rests)]


def loss(chain, channel, unit):
    """Return, for each channel, the least and the greatest growth if a channel of F is cut and the steps taken back."""
    check_channel(chain.channels, channel)
    if unit < 1:
        raise InvalidNumber(unit)
    back = chain.inverse()
    sure = sure_periods(back.steps, unit_basis(chain.channels))
    # All vectors are values of F, and the way back goes on alike behind these multiples, cut or not.
    cells = cells_of(multiples_at(sure, channel, unit))
    losses = [minus(back.at(_cut(value, channel, unit)), back.at(value)) for value in cells]
    return [(min(column), max(column)) for column in zip(*losses)]


def _cut(vector, channel, unit):
    """Return a vector with a channel rounded down to a multiple of a unit."""
    row = list(vector)
    row[channel] = row[channel] - row[channel] % unit
    return tuple(row)
