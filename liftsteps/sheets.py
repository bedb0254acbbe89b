"""Sheets: chains that change."""

from liftsteps.alike import parting_vector
from liftsteps.chains import Chain
from liftsteps.errors import InvalidNumber, NothingToUndo
from liftsteps.readings import read_chain


class Sheet:
    """A chain that changes, and the chains that it was before each change."""

    def __init__(self, chain):
        # Its own one, so that the sheet holds nothing of its caller's.
        self._chain = Chain(chain.channels, chain.steps)
        self._earlier = []

    @property
    def chain(self):
        """The present chain."""
        return self._chain

    @classmethod
    def of_text(cls, text):
        """Return a sheet with the chain of a text."""
        return cls(read_chain(text))

    def __eq__(self, other):
        return isinstance(other, Sheet) and self._chain == other._chain

    def walk(self, vector):
        """Yield the rows of a vector: itself, and what it is after each step."""
        for row in self._chain.path(vector):
            yield row

    def add(self, step):
        """Add a step at the end; return the vector that parts the chains before and after."""
        return self._changed(self._chain.steps + [step])

    def put(self, number, step):
        """Put a step in the place of another one; return the vector that parts the chains before and after."""
        steps = self._chain.steps
        # Below 0 Python counts from the end, so a low bound is needed, too.
        if number < 0 or number >= len(steps):
            raise InvalidNumber(number)
        return self._changed(steps[:number] + [step] + steps[number + 1:])

    def cut(self, number):
        """Keep the first steps, so many of them; return the vector that parts the chains before and after."""
        steps = self._chain.steps
        if number < 0 or number > len(steps):
            raise InvalidNumber(number)
        return self._changed(steps[:number])

    def undo(self):
        """Take back the last change that has not been taken back yet."""
        if len(self._earlier) == 0:
            raise NothingToUndo(0)
        self._chain = self._earlier.pop()

    def _changed(self, steps):
        """Go on with other steps, of which only a new one may be wrong; return the parting vector."""
        before = self._chain
        after = Chain(before.channels, steps)
        vector = parting_vector(before, after)
        self._earlier.append(before)
        self._chain = after
        return vector
