"""What comes of vectors after any number of rounds of a chain whose linear part turns them round.

With an order k, of which the power of the linear part is the identity, the sure periods of k rounds
are turned among themselves. So a round exchanges the classes of vectors that differ by these. A whole
turn of a vector is a number of rounds, a multiple of k, after which its class has come back: then all
vectors of the class have gone on by one drift, and they go on by it after each further turn.
"""

from math import lcm

from liftsteps.boxes import check_box
from liftsteps.cosets import cell_counts, cell_of, cells_of, sure_periods, unit_basis
from liftsteps.errors import InvalidNumber, NotTurning
from liftsteps.integers import image_of, minus, multiple, plus
from liftsteps.maps import linear_part
from liftsteps.matrices import Matrix
from liftsteps.orbits import orbits_of

# No matrix of two or three rows of integers has a power that is the identity without one of the first six.
_MOST_TURNS = 6


def is_turning(chain):
    """Tell whether the linear part has integers only, and some power of it is the identity."""
    return _order(chain) is not None


def after_rounds(chain, vector, times):
    """Return what comes of a vector if a chain is done so many times."""
    order = _checked_order(chain)
    if times < 0:
        raise InvalidNumber(times)
    rows = _whole_turn(chain, order, vector)
    turns, left = divmod(times, len(rows) - 1)
    # The drift is turned with the vector in the rounds that are left.
    drift = _turned(chain, minus(rows[-1], rows[0]), left % order)
    return plus(rows[left], multiple(turns, drift))


def round_of(chain, vector):
    """Return the least number of rounds behind which a vector always goes on by one drift, and this drift."""
    order = _checked_order(chain)
    rows = _whole_turn(chain, order, vector)
    whole = len(rows) - 1
    # Two such numbers have a common divisor that is one, too; so the least one divides the whole turn.
    for length in range(1, whole):
        if whole % length == 0 and _goes_on(chain, rows, length, order):
            return (length, minus(rows[length], rows[0]))
    return (whole, minus(rows[whole], rows[0]))


def whole_order(chain):
    """Return the least number of rounds, at least 1, after which all vectors are as at first, None if there is none."""
    order = _checked_order(chain)
    total = order
    for orbit, drift in _drifting_orbits(chain, order, _steady_basis(chain, order)):
        if any(drift):
            return None
        total = lcm(total, len(orbit))
    return total


def count_back(chain, box):
    """Return the number of the vectors of a box that are as at first after some number of rounds of at least 1."""
    order = _checked_order(chain)
    check_box(chain.channels, box)
    basis = _steady_basis(chain, order)
    counts = cell_counts(basis, box)
    total = 0
    for orbit, drift in _drifting_orbits(chain, order, basis):
        if not any(drift):
            total = total + sum([counts.get(cell, 0) for cell in orbit])
    return total


def _order(chain):
    """Return the least exponent of at least 1 by which the linear part is the identity, None if it is not turning."""
    part = linear_part(chain)
    if part.bottom != 1:
        return None
    same = Matrix([list(unit) for unit in unit_basis(chain.channels)], 1)
    power = part
    for exponent in range(1, _MOST_TURNS + 1):
        if power == same:
            return exponent
        power = part.after(power)
    return None


def _checked_order(chain):
    order = _order(chain)
    if order is None:
        raise NotTurning(None)
    return order


def _steady_basis(chain, order):
    """Return a basis of vectors behind which all rounds go on alike, and which a round turns among themselves."""
    return sure_periods(chain.steps * order, unit_basis(chain.channels))


def _whole_turn(chain, order, vector):
    """Return the vector and what comes of it round by round, to the end of a whole turn."""
    basis = _steady_basis(chain, order)
    home = cell_of(basis, vector)
    rows = [tuple(vector), chain.at(vector)]
    while (len(rows) - 1) % order != 0 or cell_of(basis, rows[-1]) != home:
        rows.append(chain.at(rows[-1]))
    return rows


def _turned(chain, vector, times):
    """Return what the linear part of a turning chain makes of a vector so many times."""
    rows = linear_part(chain).rows
    for _ in range(times):
        vector = image_of(rows, vector)
    return vector


def _goes_on(chain, rows, length, order):
    """Tell whether a vector goes on by one drift after each so many rounds, a divisor of its whole turn."""
    drift = minus(rows[length], rows[0])
    # If the rounds turn the drift away, it is another one in the next whole turn.
    if _turned(chain, drift, length % order) != drift:
        return False
    stops = [plus(rows[0], multiple(number, drift)) for number in range((len(rows) - 1) // length + 1)]
    return rows[::length] == stops


def _drifting_orbits(chain, order, basis):
    """Return the tuples of each orbit of cells and the drift of its first cell in a whole turn."""
    values, following = {}, {}
    for cell in cells_of(basis):
        values[cell] = chain.at(cell)
        following[cell] = cell_of(basis, values[cell])
    rows = linear_part(chain).rows
    found = []
    for orbit in orbits_of(following):
        drift = (0,) * chain.channels
        for cell in orbit * (lcm(len(orbit), order) // len(orbit)):
            # From the cell itself the round leads to its value, and what has come together so far is turned.
            drift = plus(image_of(rows, drift), minus(values[cell], following[cell]))
        found.append((orbit, drift))
    return found
