"""Chains of steps."""

from liftsteps.errors import InvalidChain, OtherChannels
from liftsteps.steps import apply_step, inverse_step, is_step


class Chain:
    """A chain: a number of channels, and steps that are done one after another."""

    def __init__(self, channels, steps):
        _check_chain(channels, steps)
        self._channels = channels
        self._steps = list(steps)

    @property
    def channels(self):
        """The number of channels."""
        return self._channels

    @property
    def steps(self):
        """The list of the steps."""
        return list(self._steps)

    def __len__(self):
        return len(self._steps)

    def __eq__(self, other):
        return isinstance(other, Chain) and self._channels == other._channels and self._steps == other._steps

    def at(self, vector):
        """Return what comes of a vector."""
        row = tuple(vector)
        for step in self._steps:
            row = apply_step(step, row)
        return row

    def path(self, vector):
        """Return the list of the rows of a vector: itself, and what it is after each step."""
        row = tuple(vector)
        rows = [row]
        for step in self._steps:
            row = apply_step(step, row)
            rows.append(row)
        return rows

    def inverse(self):
        """Return the chain that takes the steps back, the last one first."""
        return Chain(self._channels, [inverse_step(step) for step in reversed(self._steps)])

    def followed_by(self, other):
        """Return the chain with these steps and then those of another chain."""
        if other.channels != self._channels:
            raise OtherChannels(other.channels)
        return Chain(self._channels, self._steps + other.steps)

    def grid(self):
        """Return the product of all divisors, 1 if there is none."""
        total = 1
        for step in self._steps:
            if step[0] == "lift":
                total = total * step[4]
        return total


def _check_chain(channels, steps):
    if channels not in (2, 3):
        raise InvalidChain(None)
    for number, step in enumerate(steps):
        if not is_step(channels, step):
            raise InvalidChain(number)
