"""Whether two chains do the same, and the least vector that parts them."""

from liftsteps.boxes import vectors_of
from liftsteps.columns import columns_behind, columns_of
from liftsteps.cosets import cells_of, sure_periods, unit_basis
from liftsteps.errors import OtherChannels
from liftsteps.maps import linear_part


def parting_vector(first, second):
    """Return the vector nearest to zero of which two chains make unlike vectors, None if there is none."""
    if are_alike(first, second):
        return None
    # Some vector parts them now, so that one of the shells has it.
    size = 0
    while True:
        for vector in _shell(first.channels, size):
            if first.at(vector) != second.at(vector):
                return vector
        size = size + 1


def are_alike(first, second):
    """Tell whether two chains do the same to all vectors."""
    if second.channels != first.channels:
        raise OtherChannels(second.channels)
    if linear_part(first) != linear_part(second):
        return False
    # With equal linear parts both go on alike behind the sure periods that they share.
    shared = sure_periods(second.steps, sure_periods(first.steps, unit_basis(first.channels)))
    columns = columns_of(cells_of(shared))
    return columns_behind(first.steps, columns) == columns_behind(second.steps, columns)


def _shell(channels, size):
    """Return the vectors whose greatest absolute entry is of a size, in ascending order."""
    if channels == 0:
        return []
    vectors = []
    for entry in range(-size, size + 1):
        # Once an entry has the size, the others need not have it.
        if abs(entry) == size:
            tails = vectors_of([(-size, size)] * (channels - 1))
        else:
            tails = _shell(channels - 1, size)
        vectors.extend([(entry,) + tail for tail in tails])
    return vectors
