"""Boxes of vectors: their check, those of channels, and the walk of a small box."""

from liftsteps.errors import InvalidBox, InvalidChannel, NotTwo


def check_box(channels, box):
    """Raise InvalidBox if a box is none of so many channels."""
    if len(box) != channels:
        raise InvalidBox(None)
    for number, (low, high) in enumerate(box):
        if low > high:
            raise InvalidBox(number)


def check_channel(channels, channel):
    """Raise InvalidChannel if there is no such channel among so many."""
    # Below 0 Python counts from the end, so a low bound is needed, too.
    if channel < 0 or channel >= channels:
        raise InvalidChannel(channel)


def check_two(channels):
    """Raise NotTwo if a chain has another number of channels than two."""
    if channels != 2:
        raise NotTwo(channels)


def vectors_of(box):
    """Return the list of all vectors of a small box, in ascending order."""
    return crossed([list(range(low, high + 1)) for low, high in box])


def crossed(axes):
    """Return the list of all vectors with an entry of each axis, in the order of the axes."""
    vectors = [()]
    for axis in axes:
        vectors = [vector + (entry,) for vector in vectors for entry in axis]
    return vectors
