"""Texts of steps, chains and vectors."""


def show_step(step):
    """Return the word and the integers of a step with single spaces."""
    if step[0] != "lift":
        return " ".join([str(item) for item in step])
    word, channel, weights, more, divisor = step
    return f"{word} {channel} {show_vector(weights)} {more} {divisor}"


def show_chain(chain):
    """Return the number of channels and the steps of a chain, separated by a semicolon and a space."""
    return "; ".join([str(chain.channels)] + [show_step(step) for step in chain.steps])


def show_vector(vector):
    """Return the integers of a vector with single spaces."""
    return " ".join([str(entry) for entry in vector])
