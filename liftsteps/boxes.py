"""Boxes of vectors: their check, the check of a channel, and the walk of a small box."""

from liftsteps.errors import InvalidBox, InvalidChannel


def check_box(channels, box):
    """Raise InvalidBox if a box is none of so many channels."""
    if len(box) != channels:
        raise InvalidBox(None)
    for number, (low, high) in enumerate(box):
        if low > high:
            raise InvalidBox(number)


def check_channel(channels, channel):
    """Raise InvalidChannel if there is no such channel among so many."""
    # Below 0 Python counts from the end, so a low bound is needed, too.
    if channel < 0 or channel >= channels:
        raise InvalidChannel(channel)


def vectors_of(box):
    """Return the list of all vectors of a small box, in ascending order."""
    vectors = [()]
    for low, high in box:
        vectors = [vector + (entry,) for vector in vectors for entry in range(low, high + 1)]
    return vectors
