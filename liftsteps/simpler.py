"""Other chains near a chain: steps exchanged, left out, or rounded otherwise."""

from itertools import combinations

from liftsteps.alike import are_alike
from liftsteps.chains import Chain
from liftsteps.errors import InvalidNumber


def may_exchange(chain, number):
    """Tell whether a chain does the same with a step and the next one exchanged."""
    steps = chain.steps
    _check_number(number, len(steps) - 1)
    steps[number], steps[number + 1] = steps[number + 1], steps[number]
    return are_alike(chain, Chain(chain.channels, steps))


def may_leave(chain, number):
    """Tell whether a chain does the same without a step."""
    steps = chain.steps
    _check_number(number, len(steps))
    return are_alike(chain, Chain(chain.channels, steps[:number] + steps[number + 1:]))


def fewest_steps(chain):
    """Return the numbers of as few steps as possible that do the same as the whole chain."""
    steps = chain.steps
    for many in range(len(steps)):
        for numbers in combinations(range(len(steps)), many):
            if are_alike(chain, Chain(chain.channels, [steps[number] for number in numbers])):
                return list(numbers)
    return list(range(len(steps)))


def rounded(chain, number, way):
    """Return the chain in which a lift rounds in another way."""
    steps = chain.steps
    _check_number(number, len(steps))
    if steps[number][0] != "lift":
        raise InvalidNumber(number)
    word, channel, weights, more, divisor = steps[number]
    steps[number] = (word, channel, weights, more + _growth(divisor, way), divisor)
    return Chain(chain.channels, steps)


def _check_number(number, many):
    # Below 0 Python counts from the end, so a low bound is needed, too.
    if number < 0 or number >= many:
        raise InvalidNumber(number)


def _growth(divisor, way):
    """Return what added to the sum turns rounding down into another way of rounding."""
    if way == "up":
        return divisor - 1
    if way == "half up":
        return divisor // 2
    if way == "half down":
        return (divisor - 1) // 2
    return 0
