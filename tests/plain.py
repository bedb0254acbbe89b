"""Chains to try, and a plain reckoning by the definition, for several test files.

Nothing here asks the package: steps are done on tuples, and all vectors are walked.
"""

import random
from fractions import Fraction
from itertools import product

FAR = 10 ** 31
PAIR = [("lift", 0, (0, -1), 0, 1), ("lift", 1, (1, 0), 0, 2)]
MOST = {2: 12, 3: 6}


def random_step(source, channels, divisors):
    word = source.choice(["lift", "lift", "lift", "swap", "turn"])
    if word == "swap":
        return ("swap", *sorted(source.sample(range(channels), 2)))
    channel = source.randrange(channels)
    if word == "turn":
        return ("turn", channel)
    weights = tuple(0 if k == channel else source.randint(-6, 6) for k in range(channels))
    return ("lift", channel, weights, source.randint(-20, 20), source.choice(divisors))


def samples(each=12, divisors=(1, 2, 3, 6)):
    """Return channels and steps, none to six, the same in every run."""
    source = random.Random(5)
    return [
        (channels, [random_step(source, channels, divisors) for _ in range(many)])
        for channels in (2, 3) for many in range(7) for _ in range(each)
    ]


def bounded_steps(source, channels, many, most=None):
    """Return random steps whose divisors have a product of at most the bound of point 2."""
    left = MOST[channels] if most is None else most
    steps = []
    for _ in range(many):
        divisors = [divisor for divisor in range(1, 7) if divisor <= left]
        step = random_step(source, channels, divisors)
        if step[0] == "lift":
            left //= step[4]
        steps.append(step)
    source.shuffle(steps)
    return steps


def bounded(each, seed=7, longest=6, most=None):
    """Return channels and steps within the bounds of point 2, none to so many steps."""
    source = random.Random(seed)
    return [
        (channels, bounded_steps(source, channels, many, most))
        for channels in (2, 3) for many in range(longest + 1) for _ in range(each)
    ]


def of_two(each, seed=7, longest=6):
    """Return the steps of the chains of two channels among these."""
    return [steps for channels, steps in bounded(each, seed, longest) if channels == 2]


def done(steps, vector):
    """What comes of a vector."""
    row = list(vector)
    for step in steps:
        if step[0] == "lift":
            row[step[1]] += (sum(a * b for a, b in zip(step[2], row)) + step[3]) // step[4]
        elif step[0] == "swap":
            row[step[1]], row[step[2]] = row[step[2]], row[step[1]]
        else:
            row[step[1]] = -row[step[1]]
    return tuple(row)


def undone(steps, vector):
    """What became a vector by steps, taken back one by one."""
    row = list(vector)
    for step in reversed(steps):
        if step[0] == "lift":
            row[step[1]] -= (sum(a * b for a, b in zip(step[2], row)) + step[3]) // step[4]
        elif step[0] == "swap":
            row[step[1]], row[step[2]] = row[step[2]], row[step[1]]
        else:
            row[step[1]] = -row[step[1]]
    return tuple(row)


def plainly(steps, vector):
    """What the linear part of steps makes of a vector: no rounding, no numbers more."""
    row = [Fraction(entry) for entry in vector]
    for step in steps:
        if step[0] == "lift":
            row[step[1]] += sum(a * b for a, b in zip(step[2], row)) / step[4]
        elif step[0] == "swap":
            row[step[1]], row[step[2]] = row[step[2]], row[step[1]]
        else:
            row[step[1]] = -row[step[1]]
    return row


def units(channels):
    return [tuple(int(k == place) for k in range(channels)) for place in range(channels)]


def plain_rows(channels, steps):
    """The rows of the linear part, as fractions."""
    columns = [plainly(steps, unit) for unit in units(channels)]
    return [list(row) for row in zip(*columns)]


def plain_grid(steps):
    total = 1
    for step in steps:
        total *= step[4] if step[0] == "lift" else 1
    return total


def plus(first, second):
    return tuple(a + b for a, b in zip(first, second))


def minus(first, second):
    return tuple(a - b for a, b in zip(first, second))


def walk(box):
    """All vectors of a box, in ascending order."""
    return list(product(*(range(low, high + 1) for low, high in box)))


def small_boxes(source, channels):
    """Boxes to walk: of one vector, thin ones, and ones longer than two grids."""
    corner = [source.randint(-9, 9) for _ in range(channels)]
    longest = 27 if channels == 2 else 8
    boxes = [[(low, low) for low in corner]]
    for most in (2, longest // 2, longest):
        boxes.append([(low, low + source.randint(0, most)) for low in corner])
    return boxes


def size_of(box):
    total = 1
    for low, high in box:
        total *= high - low + 1
    return total


def halves_of(box, place, cut):
    """Both parts of a box that is cut behind an entry."""
    low, high = box[place]
    return [box[:place] + [part] + box[place + 1:] for part in ((low, cut), (cut + 1, high))]


def is_period(channels, steps, vector):
    """Whether F grows by the same along a vector, from all vectors of a grid."""
    cells = walk([(0, plain_grid(steps) - 1)] * channels)
    growths = {minus(done(steps, plus(cell, vector)), done(steps, cell)) for cell in cells}
    return len(growths) == 1


def plain_periods(channels, steps):
    """All periods with entries from 0 to one less than the grid."""
    cells = walk([(0, plain_grid(steps) - 1)] * channels)
    values = {cell: done(steps, cell) for cell in walk([(0, 2 * plain_grid(steps) - 2)] * channels)}
    found = []
    for period in cells:
        growth = minus(values[period], values[(0,) * channels])
        if all(minus(values[plus(cell, period)], values[cell]) == growth for cell in cells):
            found.append(period)
    return found


def plain_parting(channels, first, second):
    """The parting vector, by a walk of all vectors within the bound of point 8 and one more."""
    reach = (plain_grid(first) + plain_grid(second)) // 2 + 1
    parting = [v for v in walk([(-reach, reach)] * channels) if done(first, v) != done(second, v)]
    return min(parting, key=lambda v: (max(map(abs, v)), v), default=None)


def told(chain):
    return (chain.channels, chain.steps)


def bad_boxes(channels):
    """Boxes that are none of a chain, and the values of their errors."""
    wrong = {
        2: [
            ([], None), ([(0, 1)], None), ([(0, 1)] * 3, None), ([(1, 0)], None), ([(1, 0)] * 3, None),
            ([(1, 0), (0, 1)], 0), ([(0, 1), (1, 0)], 1), ([(1, 0), (1, 0)], 0), ([(0, 0), (FAR, FAR - 1)], 1),
            ([(FAR, -FAR), (0, 0)], 0), ([(-1, -2), (3, 3)], 0),
        ],
        3: [
            ([(0, 1)] * 2, None), ([(0, 1)] * 4, None), ([], None), ([(0, 0), (0, 0), (0, -1)], 2),
            ([(0, 0), (5, 4), (0, -1)], 1), ([(1, 0), (5, 4), (0, 0)], 0),
        ],
    }
    return wrong[channels]


def bad_channels(channels):
    return [channels, channels + 1, -1, -2, -channels, FAR, -FAR]


def check_error(test, kind, value, call, /, *given, **named):
    """Ask twice, so that an error changes nothing: the very class, and its value."""
    for _ in range(2):
        with test.assertRaises(kind) as caught:
            call(*given, **named)
        test.assertIs(caught.exception.__class__, kind)
        test.assertEqual((caught.exception.value, caught.exception.value.__class__), (value, value.__class__))
