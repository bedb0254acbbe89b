"""What a chain does in channels of few values: after each step the remainder of each entry is taken."""

from math import lcm

from liftsteps.boxes import vectors_of
from liftsteps.columns import columns_of, step_columns
from liftsteps.errors import InvalidNumber, InvalidVector
from liftsteps.orbits import orbits_of
from liftsteps.ranges import first_outside
from liftsteps.steps import apply_step


def wrapped_after(chain, width, vector, times):
    """Return what comes of a vector after so many rounds of a chain in channels of width values."""
    _check_width(width)
    _check_vector(width, vector)
    if times < 0:
        raise InvalidNumber(times)
    orbit = _wrapped_orbit(chain, width, vector)
    return orbit[times % len(orbit)]


def cycle_length(chain, width, vector):
    """Return the least number of rounds of at least 1 after which a vector is as at first."""
    _check_width(width)
    _check_vector(width, vector)
    return len(_wrapped_orbit(chain, width, vector))


def cycles(chain, width):
    """Return the tuples (length, number) of the lengths of all cycles, in ascending order, and how many have them."""
    _check_width(width)
    numbers = {}
    for length in _cycle_lengths(chain, width):
        numbers[length] = numbers.get(length, 0) + 1
    return sorted(numbers.items())


def wrapped_order(chain, width):
    """Return the least number of rounds of at least 1 after which all vectors are as at first."""
    _check_width(width)
    total = 1
    for length in _cycle_lengths(chain, width):
        total = lcm(total, length)
    return total


def is_harmless(chain, width, box):
    """Tell whether all rows of all vectors of a box have entries from 0 to width - 1 without remainders."""
    _check_width(width)
    return first_outside(chain, box, 0, width - 1) is None


def _check_width(width):
    if width < 1:
        raise InvalidNumber(width)


def _check_vector(width, vector):
    for channel, entry in enumerate(vector):
        if entry < 0 or entry >= width:
            raise InvalidVector(channel)


def _wrapped_orbit(chain, width, vector):
    """Return the vector and what comes of it round by round, as long as it is not as at first."""
    # A step with remainders exchanges the vectors, so that the first one to come again is the first one of all.
    steps = chain.steps
    orbit = [tuple(vector)]
    row = _wrapped_round(steps, width, orbit[0])
    while row != orbit[0]:
        orbit.append(row)
        row = _wrapped_round(steps, width, row)
    return orbit


def _wrapped_round(steps, width, row):
    for step in steps:
        row = tuple([entry % width for entry in apply_step(step, row)])
    return row


def _cycle_lengths(chain, width):
    """Return the list of the lengths of the cycles of all vectors."""
    vectors = vectors_of([(0, width - 1)] * chain.channels)
    columns = columns_of(vectors)
    for step in chain.steps:
        columns = [[entry % width for entry in column] for column in step_columns(step, columns)]
    values = list(zip(*columns))
    return [len(orbit) for orbit in orbits_of(dict(zip(vectors, values)))]
