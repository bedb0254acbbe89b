"""Square matrices of fractions, kept as integers over one bottom."""

from math import gcd

from liftsteps.errors import InvalidMatrix, OtherChannels, Singular
from liftsteps.integers import dot, fraction


class Matrix:
    """A matrix of fractions: rows of integers, all divided by one bottom."""

    def __init__(self, rows, bottom):
        _check_matrix(rows, bottom)
        common = _common_divisor(rows, bottom)
        self._rows = [[entry // common for entry in row] for row in rows]
        self._bottom = bottom // common

    @property
    def rows(self):
        """The rows of the least form."""
        return [list(row) for row in self._rows]

    @property
    def bottom(self):
        """The bottom of the least form."""
        return self._bottom

    def __len__(self):
        return len(self._rows)

    def __eq__(self, other):
        # The least form is the only one, so equal fractions mean equal forms.
        return isinstance(other, Matrix) and self._bottom == other._bottom and self._rows == other._rows

    def after(self, inner):
        """Return the product of this matrix and an inner one, which is done first."""
        size = len(self._rows)
        if len(inner) != size:
            raise OtherChannels(len(inner))
        inner_rows = inner.rows
        columns = [[line[place] for line in inner_rows] for place in range(size)]
        rows = [[dot(row, column) for column in columns] for row in self._rows]
        return Matrix(rows, self._bottom * inner.bottom)

    def image(self, vector):
        """Return the list of the fractions of the product with a vector."""
        return [fraction(dot(row, vector), self._bottom) for row in self._rows]

    def determinant(self):
        """Return the determinant, a fraction."""
        bottom = 1
        for _ in self._rows:
            bottom = bottom * self._bottom
        return fraction(_volume(self._rows), bottom)

    def inverse(self):
        """Return the inverse matrix."""
        volume = _volume(self._rows)
        if volume == 0:
            raise Singular(None)
        # A bottom is at least 1, so the sign of the volume moves to the entries.
        scale = self._bottom if volume > 0 else -self._bottom
        size = len(self._rows)
        # Row and column change places: an inverse has its cofactors transposed.
        cofactors = [[_cofactor(self._rows, line, column) for line in range(size)] for column in range(size)]
        return Matrix([[scale * entry for entry in row] for row in cofactors], abs(volume))


def _check_matrix(rows, bottom):
    if len(rows) == 0 or bottom < 1:
        raise InvalidMatrix(None)
    for number, row in enumerate(rows):
        if len(row) != len(rows):
            raise InvalidMatrix(number)


def _common_divisor(rows, bottom):
    # If all entries are 0 this is the bottom itself, so that the least bottom is 1.
    common = bottom
    for row in rows:
        for entry in row:
            common = gcd(common, entry)
    return common


def _volume(rows):
    """Return the determinant of rows of integers, 1 if there are none."""
    left, sign, last = rows, 1, 1
    while len(left) > 0:
        place = _filled_place(left)
        if place is None:
            return 0
        top = left[place]
        others = left[:place] + left[place + 1:]
        left = [_cleared(row, top, last) for row in others]
        if place % 2 == 1:
            # The row went up past an odd number of others.
            sign = -sign
        last = top[0]
    return sign * last


def _filled_place(rows):
    """Return the number of the first row that does not begin with 0, None if all do."""
    for number, row in enumerate(rows):
        if row[0] != 0:
            return number
    return None


def _cleared(row, top, last):
    """Return a row behind its first entry, which a multiple of the top row has cleared.

    The division by the last round's first entry has no remainder (Bareiss), so that
    the entries stay integers and do not grow beyond those of a determinant.
    """
    return [(top[0] * row[place] - row[0] * top[place]) // last for place in range(1, len(row))]


def _cofactor(rows, line, column):
    """Return the signed determinant of the rows without one line and one column."""
    others = rows[:line] + rows[line + 1:]
    volume = _volume([row[:column] + row[column + 1:] for row in others])
    return -volume if (line + column) % 2 == 1 else volume
