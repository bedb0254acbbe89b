"""Steps, chains and vectors of texts; a text is read only if it is just what would be shown."""

from liftsteps.chains import Chain
from liftsteps.errors import Unreadable
from liftsteps.steps import is_step

_DIGITS = "0123456789"
_MOST_DIGITS = 40


def read_step(channels, text):
    """Return the step of a chain of 2 or 3 channels with a text."""
    step = _step_of(channels, text)
    if step is None:
        raise Unreadable(text)
    return step


def read_chain(text):
    """Return the chain with a text."""
    head, *parts = text.split("; ")
    if head not in ("2", "3"):
        raise Unreadable(text)
    channels = int(head)
    steps = [_step_of(channels, part) for part in parts]
    if None in steps:
        raise Unreadable(text)
    return Chain(channels, steps)


def read_vector(text):
    """Return the vector of 2 or 3 integers with a text."""
    numbers = _integers_of(text.split(" "))
    if numbers is None or len(numbers) not in (2, 3):
        raise Unreadable(text)
    return tuple(numbers)


def _step_of(channels, text):
    """Return the step with a text, None if none has it."""
    word, *words = text.split(" ")
    numbers = _integers_of(words)
    if numbers is None:
        return None
    step = (word, *numbers)
    if word == "lift":
        if len(numbers) != channels + 3:
            return None
        channel, *weights, more, divisor = numbers
        step = (word, channel, tuple(weights), more, divisor)
    return step if is_step(channels, step) else None


def _integers_of(words):
    """Return the list of the integers that are written so, None if a word is none."""
    # Two spaces together, or one at an end, make an empty word, which is none.
    if not all([_is_integer(word) for word in words]):
        return None
    return [int(word) for word in words]


def _is_integer(word):
    digits = word.removeprefix("-")
    if digits == "" or len(digits) > _MOST_DIGITS or not all([sign in _DIGITS for sign in digits]):
        return False
    # Only 0 itself begins with 0, and it has no sign.
    return digits[0] != "0" or word == "0"
