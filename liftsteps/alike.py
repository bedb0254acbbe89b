"""Whether two chains do the same, and the least vector that parts them."""

from math import lcm

from liftsteps.boxes import vectors_of
from liftsteps.errors import OtherChannels
from liftsteps.maps import linear_part


def parting_vector(first, second):
    """Return the vector nearest to zero of which two chains make unlike vectors, None if there is none."""
    if second.channels != first.channels:
        raise OtherChannels(second.channels)
    for size in range(_reach(first, second) + 1):
        for vector in _shell(first.channels, size):
            if first.at(vector) != second.at(vector):
                return vector
    return None


def are_alike(first, second):
    """Tell whether two chains do the same to all vectors."""
    return parting_vector(first, second) is None


def _reach(first, second):
    """Return an absolute entry within which some vector parts two chains that are not alike."""
    grid, other = first.grid(), second.grid()
    reach = (grid + other) // 2
    if linear_part(first) != linear_part(second):
        return reach
    # With equal linear parts the difference itself repeats behind each common multiple.
    return min(reach, lcm(grid, other) // 2)


def _shell(channels, size):
    """Return the vectors whose greatest absolute entry is of a size, in ascending order."""
    if channels == 0:
        return []
    vectors = []
    for entry in range(-size, size + 1):
        # Once an entry has the size, the others need not have it.
        if abs(entry) == size:
            tails = vectors_of([(-size, size)] * (channels - 1))
        else:
            tails = _shell(channels - 1, size)
        vectors.extend([(entry,) + tail for tail in tails])
    return vectors
