"""How many vectors of a box two chains treat alike."""

from math import gcd, lcm

from liftsteps.boxes import check_box, check_two
from liftsteps.chains import Chain
from liftsteps.cosets import cell_counts, cell_of, cells_of, sure_periods, unit_basis
from liftsteps.errors import OtherChannels
from liftsteps.integers import dot, image_of, minus, multiple, plus
from liftsteps.lines import points_within, shared_divisor
from liftsteps.maps import linear_part


def count_agreeing(first, second, box):
    """Return the number of the vectors of a box of which two chains make the same."""
    check_two(first.channels)
    if second.channels != first.channels:
        raise OtherChannels(second.channels)
    check_box(first.channels, box)
    basis = sure_periods(second.steps, sure_periods(first.steps, unit_basis(2)))
    rows, lacks = _difference(first, second, basis)
    volume = rows[0][0] * rows[1][1] - rows[0][1] * rows[1][0]
    if volume != 0:
        return _count_points(rows, volume, lacks, basis, box)
    if rows == [[0, 0], [0, 0]]:
        counts = cell_counts(basis, box)
        return sum([count for cell, count in counts.items() if lacks[cell] == (0, 0)])
    return _count_on_lines(rows, lacks, basis, box)


def count_kept(chain, box):
    """Return the number of the vectors of a box that a chain does not change."""
    return count_agreeing(chain, Chain(2, []), box)


def _difference(first, second, basis):
    """Return by how much two linear parts differ, as rows of integers, and what the rows lack by cell.

    Of a vector both chains make the same if its image by the rows is what they lack at its cell.
    """
    one, other = linear_part(first), linear_part(second)
    bottom = lcm(one.bottom, other.bottom)
    rows = [
        [bottom // one.bottom * entry - bottom // other.bottom * less for entry, less in zip(row, others)]
        for row, others in zip(one.rows, other.rows)
    ]
    lacks = {}
    for cell in cells_of(basis):
        lead = multiple(bottom, minus(second.at(cell), first.at(cell)))
        lacks[cell] = plus(lead, image_of(rows, cell))
    return (rows, lacks)


def _count_points(rows, volume, lacks, basis, box):
    """Count where the rows have an inverse, so that each cell has one solution at most."""
    (left, right), (low_left, low_right) = rows
    total = 0
    for cell, (lack, other) in lacks.items():
        # By Cramer's rule, before the division.
        tops = (lack * low_right - other * right, other * left - lack * low_left)
        vector = (tops[0] // volume, tops[1] // volume)
        if multiple(volume, vector) == tops and cell_of(basis, vector) == cell and _is_within(box, vector):
            total = total + 1
    return total


def _is_within(box, vector):
    return all([low <= entry <= high for (low, high), entry in zip(box, vector)])


def _count_on_lines(rows, lacks, basis, box):
    """Count where both rows are multiples of one normal, so that the solutions of a cell are on a line."""
    lead = 0 if rows[0] != [0, 0] else 1
    common = gcd(rows[lead][0], rows[lead][1])
    normal = [entry // common for entry in rows[lead]]
    place = 0 if normal[0] != 0 else 1
    factors = tuple([row[place] // normal[place] for row in rows])
    # By the periods of the basis the level above the line grows by these.
    rise, other = dot(normal, basis[0]), dot(normal, basis[1])
    step, times, others = shared_divisor(rise, other)
    climb = plus(multiple(times, basis[0]), multiple(others, basis[1]))
    direction = minus(multiple(other // step, basis[0]), multiple(rise // step, basis[1]))
    total = 0
    for cell, lack in lacks.items():
        level = lack[lead] // factors[lead]
        climbs, left = divmod(level - dot(normal, cell), step)
        if multiple(level, factors) == lack and left == 0:
            total = total + points_within(box, plus(cell, multiple(climbs, climb)), direction)
    return total
