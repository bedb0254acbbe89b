"""Maps of chains: their linear parts, and the periods behind which they go on alike."""

from liftsteps.boxes import vectors_of
from liftsteps.integers import dot
from liftsteps.matrices import Matrix


def linear_part(chain):
    """Return the matrix of the product of the steps, without rounding and numbers more."""
    part = Matrix(_unit_rows(chain.channels), 1)
    for step in chain.steps:
        part = _step_part(chain.channels, step).after(part)
    return part


def periods(chain):
    """Return the basis of the periods: period i begins with i zeros and an entry of at least 1."""
    grid = chain.grid()
    rests = _rests(chain, grid)
    basis = []
    # The last period has one entry only, and bounds that place of the ones ahead of it.
    for place in reversed(range(chain.channels)):
        basis = [_least_period(rests, grid, place, basis)] + basis
    return basis


def table(chain):
    """Return the list of what comes of all residues, in ascending order of these."""
    entries = _first_entries(periods(chain), 0)
    return [chain.at(vector) for vector in vectors_of([(0, entry - 1) for entry in entries])]


def residue(chain, vector):
    """Return the vector from the least box of residues that differs from a vector by a period."""
    left = list(vector)
    for place, period in enumerate(periods(chain)):
        times = left[place] // period[place]
        left = [entry - times * growth for entry, growth in zip(left, period)]
    return tuple(left)


def _unit_rows(size):
    return [[1 if place == number else 0 for place in range(size)] for number in range(size)]


def _step_part(channels, step):
    """Return the linear part of a single step."""
    rows = _unit_rows(channels)
    if step[0] == "lift":
        _, channel, weights, _, divisor = step
        rows = [[divisor * entry for entry in row] for row in rows]
        rows[channel] = [entry + weight for entry, weight in zip(rows[channel], weights)]
        return Matrix(rows, divisor)
    if step[0] == "swap":
        _, channel, other = step
        rows[channel], rows[other] = rows[other], rows[channel]
    else:
        rows[step[1]][step[1]] = -1
    return Matrix(rows, 1)


def _rests(chain, grid):
    """Return, by vector, what F has beyond the linear part, for the vectors of one grid.

    It is scaled by the bottom of the linear part, so that it stays in integers. Beyond
    one grid it repeats, and its periods are those of the chain.
    """
    part = linear_part(chain)
    rows, bottom = part.rows, part.bottom
    rests = {}
    for vector in vectors_of([(0, grid - 1)] * chain.channels):
        rests[vector] = tuple([bottom * entry - dot(row, vector) for entry, row in zip(chain.at(vector), rows)])
    return rests


def _least_period(rests, grid, place, later):
    """Return the period of the basis that begins at a place, given the later ones."""
    tails = vectors_of([(0, entry - 1) for entry in _first_entries(later, place + 1)])
    for entry in range(1, grid):
        # A multiple of the grid is a period, so the least entry divides the grid.
        if grid % entry == 0:
            for tail in tails:
                period = (0,) * place + (entry,) + tail
                if _is_period(rests, grid, period):
                    return period
    return (0,) * place + (grid,) + (0,) * len(later)


def _first_entries(basis, place):
    """Return the first entries that are not 0 of the periods of a basis from a place on."""
    return [period[place + number] for number, period in enumerate(basis)]


def _is_period(rests, grid, period):
    for vector, rest in rests.items():
        if rests[tuple([(entry + growth) % grid for entry, growth in zip(vector, period)])] != rest:
            return False
    return True
