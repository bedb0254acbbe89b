"""Integer points below lines and on lines, counted without a walk."""

from liftsteps.integers import ceiling


def pairs_at_most(lengths, slopes, limit):
    """Return how many pairs there are with entries from 0 to less than two lengths and with a sum of at most a limit.

    The sum is that of the products of the entries and two slopes, not both of them 0.
    """
    many, slope, limit = _upwards(lengths[0], slopes[0], limit)
    others, other, limit = _upwards(lengths[1], slopes[1], limit)
    if slope == 0:
        return many * _within(limit // other + 1, others)
    # At first all of the others fit, then fewer and fewer (unless the other slope is 0), at last none.
    full = _within((limit - other * (others - 1)) // slope + 1, many)
    some = _within(limit // slope + 1, many)
    between = some - full
    return full * others + between + _rounded_sum(between, slope, limit - slope * (some - 1), other)


def points_within(box, start, direction):
    """Return how many of the vectors that differ from a start by multiples of a direction, not zero, are in a box."""
    lows, highs = [], []
    for (low, high), entry, growth in zip(box, start, direction):
        if growth > 0:
            lows.append(ceiling(low - entry, growth))
            highs.append((high - entry) // growth)
        elif growth < 0:
            lows.append(ceiling(entry - high, -growth))
            highs.append((entry - low) // -growth)
        elif entry < low or entry > high:
            return 0
    return max(0, min(highs) - max(lows) + 1)


def shared_divisor(first, second):
    """Return the greatest common divisor of two integers, not both 0, and how often to take each to make it."""
    last, rest = (first, 1, 0), (second, 0, 1)
    while rest[0] != 0:
        times = last[0] // rest[0]
        last, rest = rest, tuple([one - times * other for one, other in zip(last, rest)])
    if last[0] < 0:
        return tuple([-entry for entry in last])
    return last


def _upwards(many, slope, limit):
    """Return the same count, slope and limit seen from the other end, if the slope is below 0."""
    if slope < 0:
        return (many, -slope, limit - slope * (many - 1))
    return (many, slope, limit)


def _within(number, most):
    return max(0, min(number, most))


def _rounded_sum(many, slope, start, divisor):
    """Return the sum of (slope * k + start) // divisor for k from 0 to many - 1.

    All are at least 0, the divisor is at least 1. As in Euclid's algorithm, what is left of the slope
    and the divisor change places: the points below a line are counted along the other axis.
    """
    total = 0
    while many > 0:
        total = total + many * (many - 1) // 2 * (slope // divisor) + many * (start // divisor)
        slope, start = slope % divisor, start % divisor
        many, start = divmod(slope * many + start, divisor)
        slope, divisor = divisor, slope
    return total
