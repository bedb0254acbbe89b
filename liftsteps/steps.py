"""Single steps of a chain: which tuples are steps, what they do, with and without rounding, what takes them back."""

from liftsteps.integers import dot


def is_step(channels, step):
    """Tell whether a tuple is a step of a chain with so many channels."""
    if len(step) == 5:
        return step[0] == "lift" and _is_lift(channels, step)
    if len(step) == 3:
        return step[0] == "swap" and _are_channels(channels, step[1:]) and step[1] < step[2]
    return len(step) == 2 and step[0] == "turn" and _are_channels(channels, step[1:])


def _is_lift(channels, step):
    _, channel, weights, more, divisor = step
    if not isinstance(weights, tuple) or not _are_integers([*weights, more, divisor]):
        return False
    if len(weights) != channels or not _are_channels(channels, [channel]):
        return False
    return weights[channel] == 0 and divisor >= 1


def _are_integers(items):
    return all([isinstance(item, int) for item in items])


def _are_channels(channels, items):
    # Below 0 Python counts from the end, so a low bound is needed, too.
    return _are_integers(items) and all([0 <= item < channels for item in items])


def apply_step(step, vector):
    """Return the vector that a step makes of a vector."""
    row = list(vector)
    if step[0] == "lift":
        _, channel, weights, more, divisor = step
        row[channel] = row[channel] + (dot(weights, vector) + more) // divisor
    elif step[0] == "swap":
        _, channel, other = step
        row[channel], row[other] = row[other], row[channel]
    else:
        row[step[1]] = -row[step[1]]
    return tuple(row)


def plain_step(step):
    """Return a step without its number more: what it does where its division leaves no remainder."""
    if step[0] != "lift":
        return step
    word, channel, weights, _, divisor = step
    return (word, channel, weights, 0, divisor)


def inverse_step(step):
    """Return the step that takes a step back."""
    if step[0] != "lift":
        return step
    _, channel, weights, more, divisor = step
    # Taking back means rounding the negated sum up: this more turns up into down.
    return ("lift", channel, tuple([-weight for weight in weights]), divisor - 1 - more, divisor)
