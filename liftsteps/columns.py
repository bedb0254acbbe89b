"""Many vectors at once, as columns: one list for each channel, of the entries of all of them.

A step is done on all vectors together, which is much faster than on one after another.
"""


def columns_of(vectors):
    """Return the columns of some vectors, of which there is at least one."""
    return [list(column) for column in zip(*vectors)]


def columns_behind(steps, columns):
    """Return the columns behind some steps."""
    for step in steps:
        columns = step_columns(step, columns)
    return columns


def step_columns(step, columns):
    """Return the columns behind a step."""
    moved = list(columns)
    if step[0] == "lift":
        moved[step[1]] = _lifted(step, columns)
    elif step[0] == "swap":
        _, channel, other = step
        moved[channel], moved[other] = moved[other], moved[channel]
    else:
        moved[step[1]] = [-entry for entry in columns[step[1]]]
    return moved


def _lifted(step, columns):
    """Return the column of the channel that a lift changes."""
    _, channel, weights, more, divisor = step
    sums = [more] * len(columns[channel])
    for weight, column in zip(weights, columns):
        if weight != 0:
            sums = [total + weight * entry for total, entry in zip(sums, column)]
    return [entry + total // divisor for entry, total in zip(columns[channel], sums)]
