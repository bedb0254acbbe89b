"""Maps of chains: their linear parts, and the periods behind which they go on alike."""

from liftsteps.cosets import cell_of, cells_of, sure_periods, unit_basis
from liftsteps.integers import dot, multiple, plus
from liftsteps.matrices import Matrix
from liftsteps.steps import apply_step, plain_step


def linear_part(chain):
    """Return the matrix of the product of the steps, without rounding and numbers more."""
    grid = chain.grid()
    # At a multiple of the grid no division has a remainder.
    images = [multiple(grid, unit) for unit in unit_basis(chain.channels)]
    for step in chain.steps:
        images = [apply_step(plain_step(step), image) for image in images]
    return Matrix([list(row) for row in zip(*images)], grid)


def periods(chain):
    """Return the basis of the periods: period i begins with i zeros and an entry of at least 1."""
    sure = sure_periods(chain.steps, unit_basis(chain.channels))
    rests = rests_of(chain, cells_of(sure))
    basis = []
    # The last period has one entry only, and bounds that place of the ones ahead of it.
    for place in reversed(range(chain.channels)):
        basis = [_least_period(rests, sure, place, basis)] + basis
    return basis


def table(chain):
    """Return the list of what comes of all residues, in ascending order of these."""
    return [chain.at(vector) for vector in cells_of(periods(chain))]


def residue(chain, vector):
    """Return the vector from the least box of residues that differs from a vector by a period."""
    return cell_of(periods(chain), vector)


def rests_of(chain, vectors):
    """Return, by vector, what F has beyond the linear part: its rest.

    It is scaled by the bottom of the linear part, so that it stays in integers. It is the
    same for all vectors that differ by a period.
    """
    part = linear_part(chain)
    rows, bottom = part.rows, part.bottom
    rests = {}
    for vector in vectors:
        rests[vector] = tuple([bottom * entry - dot(row, vector) for entry, row in zip(chain.at(vector), rows)])
    return rests


def _least_period(rests, sure, place, later):
    """Return the period of the basis that begins at a place, given the later ones."""
    ends = [period[place + 1:] for period in later]
    most = sure[place][place]
    for entry in range(1, most):
        # A sure period is a period, so the least entry divides its one.
        if most % entry == 0:
            for tail in cells_of(ends):
                period = (0,) * place + (entry,) + tail
                if _is_period(rests, sure, period):
                    return period
    return (0,) * place + (most,) + cell_of(ends, sure[place][place + 1:])


def _is_period(rests, sure, period):
    for vector, rest in rests.items():
        if rests[cell_of(sure, plus(vector, period))] != rest:
            return False
    return True
