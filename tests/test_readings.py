"""Points 2, 3 and 4 and the interface of liftsteps/readings.py."""

import random
import unittest

from liftsteps.chains import Chain
from liftsteps.errors import InvalidChain, Unreadable
from liftsteps.readings import read_chain, read_step, read_vector
from liftsteps.texts import show_chain, show_step, show_vector
from tests.plain import FAR, PAIR, bounded, check_error, done, samples, told

DIGITS_40 = "9" * 40
DIGITS_41 = "1" + "0" * 40
# Words that are no integers.
BAD_WORDS = [
    "", "-", "--1", "+1", "00", "01", "-0", "-00", "-01", "1-", "1.0", "1e3", "1_0", "x", "0x1", " ", "1,", "one",
    DIGITS_41, "-" + DIGITS_41, "0" + DIGITS_40, "-0" + DIGITS_40[1:], "None", "True", "(1)", "- 1", "~", "!1",
]


def spoilt(text):
    """Texts that are nearly one: a sign left out, put in, or exchanged."""
    found = []
    for place in range(len(text) + 1):
        found.append(text[:place] + text[place + 1:])
        for sign in " ;-0x1":
            found.append(text[:place] + sign + text[place:])
            found.append(text[:place] + sign + text[place + 1:])
    words = text.split(" ")
    for place in range(len(words) + 1):
        found.append(" ".join(words[:place] + words[place + 1:]))
        found.append(" ".join(words[:place] + ["1"] + words[place:]))
    return found


def plain_chain(text):
    """What a chain's text says, by the words of the document, none if it says nothing."""
    parts = text.split("; ")
    if parts[0] not in ("2", "3"):
        return None
    steps = [plain_step(int(parts[0]), part) for part in parts[1:]]
    return None if None in steps else (int(parts[0]), steps)


def plain_number(word):
    """The integer of a word, tried by writing it again."""
    try:
        number = int(word)
    except ValueError:
        return None
    return number if str(number) == word and len(word.lstrip("-")) <= 40 else None


def plain_step(channels, text):
    word, *words = text.split(" ")
    numbers = [plain_number(each) for each in words]
    if None in numbers:
        return None
    if word == "turn" and len(numbers) == 1:
        return ("turn", numbers[0]) if 0 <= numbers[0] < channels else None
    if word == "swap" and len(numbers) == 2:
        return ("swap", *numbers) if 0 <= numbers[0] < numbers[1] < channels else None
    if word == "lift" and len(numbers) == channels + 3:
        channel, weights, more, divisor = numbers[0], tuple(numbers[1:-2]), numbers[-2], numbers[-1]
        if 0 <= channel < channels and weights[channel] == 0 and divisor >= 1:
            return ("lift", channel, weights, more, divisor)
    return None


class ExampleTest(unittest.TestCase):

    def test_document(self):
        found = [read_step(2, "lift 0 0 -1 0 1"), read_chain("2").steps, read_vector("3 -4 5")]
        self.assertEqual(found, [("lift", 0, (0, -1), 0, 1), [], (3, -4, 5)])


class ReadStepTest(unittest.TestCase):

    def test_what_is_shown(self):
        for channels, steps in samples() + bounded(5, 251):
            for step in steps:
                found = read_step(channels, show_step(step))
                self.assertEqual((found, found.__class__), (step, tuple))
                self.assertEqual([item.__class__ for item in found], [item.__class__ for item in step])

    def test_spoilt(self):
        read = 0
        for channels, text in (
            (2, "lift 1 1 0 -2 3"), (3, "lift 2 -6 10 0 0 1"), (3, "swap 0 2"), (2, "swap 0 1"), (3, "turn 2"),
            (2, "turn 0"), (2, f"lift 0 0 {DIGITS_40} -{DIGITS_40} {DIGITS_40}"),
        ):
            self.assertEqual(show_step(read_step(channels, text)), text)
            for other in spoilt(text):
                step = plain_step(channels, other)
                if step is None:
                    check_error(self, Unreadable, other, read_step, channels, other)
                else:
                    self.assertEqual(read_step(channels, other), step)
                    read += 1
        self.assertGreater(read, 60)

    def test_words(self):
        for word in BAD_WORDS:
            for text in (
                f"turn {word}", f"swap 0 {word}", f"swap {word} 1", f"lift {word} 0 1 0 1", f"lift 0 {word} 1 0 1",
                f"lift 0 0 {word} 0 1", f"lift 0 0 1 {word} 1", f"lift 0 0 1 0 {word}",
            ):
                check_error(self, Unreadable, text, read_step, 2, text)
        for text in (
            "", " ", "lift", "swap", "turn", "turn  0", " turn 0", "turn 0 ", "Turn 0", "TURN 0", "hop 0", "turn0",
            "turn 0 0", "swap 0", "swap 0 1 2", "swap 1 0", "swap 1 1", "swap 0 2", "swap -1 0", "turn 2", "turn -1",
            "lift 0 0 1 0", "lift 0 0 1 0 1 1", "lift 0 1 0 0 1", "lift 2 0 0 0 1", "lift -1 0 0 0 1", "0", "0 turn",
            "lift 0 0 1 0 0", "lift 0 0 1 0 -1", "lift 0 0 1 1 0 1", "lift 0", "lift 0 0 1", "2; turn 0", "turn 0;",
            "lift (0, 1) 0 1 0 1", "turn;0", "turn\t0", "turn 0\n",
        ):
            check_error(self, Unreadable, text, read_step, 2, text)
            check_error(self, Unreadable, text, read_step, text=text, channels=2)
        self.assertEqual(read_step(text="turn 1", channels=2), ("turn", 1))

    def test_channels_count(self):
        self.assertEqual(read_step(3, "swap 0 2"), ("swap", 0, 2))
        self.assertEqual(read_step(3, "lift 0 0 1 0 1 2"), ("lift", 0, (0, 1, 0), 1, 2))
        check_error(self, Unreadable, "lift 0 0 1 0 1 2", read_step, 2, "lift 0 0 1 0 1 2")
        check_error(self, Unreadable, "lift 0 0 1 0 1", read_step, 3, "lift 0 0 1 0 1")

    def test_long_integers(self):
        step = ("lift", 1, (int(DIGITS_40), 0), -int(DIGITS_40), int(DIGITS_40))
        self.assertEqual(read_step(2, show_step(step)), step)
        for step in (
            ("lift", 1, (int(DIGITS_41), 0), 0, 1), ("lift", 1, (0, 0), -int(DIGITS_41), 1),
            ("lift", 1, (0, 0), 0, int(DIGITS_41)),
        ):
            text = show_step(step)
            check_error(self, Unreadable, text, read_step, 2, text)


class ReadChainTest(unittest.TestCase):

    def test_what_is_shown(self):
        for channels, steps in samples() + bounded(5, 252):
            chain = Chain(channels, steps)
            found = read_chain(show_chain(chain))
            self.assertIs(found.__class__, Chain)
            self.assertEqual((found, told(found)), (chain, (channels, steps)))
        for channels in (2, 3):
            self.assertEqual(told(read_chain(str(channels))), (channels, []))

    def test_spoilt(self):
        read = 0
        for text in ("2", "3; turn 2; swap 0 1", "2; lift 0 0 -1 0 1; lift 1 1 0 0 2", "3; lift 1 2 0 -3 20 6; turn 1"):
            self.assertEqual(show_chain(read_chain(text)), text)
            for other in spoilt(text):
                found = plain_chain(other)
                if found is None:
                    check_error(self, Unreadable, other, read_chain, other)
                else:
                    self.assertEqual(told(read_chain(other)), found)
                    read += 1
        self.assertGreater(read, 30)

    def test_words(self):
        for text in (
            "", " ", "0", "1", "4", "23", "-2", "02", "+2", "2 ", " 2", "2;", "2; ", "; turn 0", "turn 0", "2 turn 0",
            "2;turn 0", "2;  turn 0", "2 ; turn 0", "2; turn 0;", "2; turn 0; ", "2; ; turn 0", "2;; turn 0", "x",
            "2; turn 0 ; turn 1", "2; turn 0, turn 1", "2; 2", "2; turn 2", "3; turn 3", "2; swap 1 2", "2; turn 0; hop 1",
            "3; lift 0 0 1 0 1", "2; lift 0 0 1 1 0 1", "2; lift 0 1 0 0 1", "two", "2; Turn 0", "2. turn 0", "3: turn 0",
        ):
            # The whole text is told, not the part that is wrong.
            check_error(self, Unreadable, text, read_chain, text)
            check_error(self, Unreadable, text, read_chain, text=text)
        self.assertEqual(told(read_chain(text="2; turn 0")), (2, [("turn", 0)]))

    def test_beyond_the_bounds(self):
        steps = [("lift", 0, (0, 50), -300, 60), ("lift", 1, (-70, 0), 10 ** 39, 77), ("swap", 0, 1)] * 20
        chain = read_chain(show_chain(Chain(2, steps)))
        self.assertEqual((told(chain), len(chain)), ((2, steps), 60))
        vector = (FAR, -5)
        self.assertEqual(chain.at(vector), done(steps, vector))
        self.assertEqual(chain.inverse().at(chain.at(vector)), vector)
        self.assertEqual(read_chain(show_chain(chain.inverse())), chain.inverse())
        self.assertEqual(read_chain(show_chain(chain.followed_by(chain))), Chain(2, steps * 2))

    def test_a_wrong_chain_is_not_raised(self):
        # A text of a step that no chain has is that of nothing.
        with self.assertRaises(InvalidChain):
            Chain(2, [("turn", 0), ("turn", 2)])
        check_error(self, Unreadable, "2; turn 0; turn 2", read_chain, "2; turn 0; turn 2")


class ReadVectorTest(unittest.TestCase):

    def test_what_is_shown(self):
        source = random.Random(253)
        for reach in (1, 9, 10 ** 6, FAR, 10 ** 40 - 1):
            for channels in (2, 3):
                for _ in range(10):
                    vector = tuple(source.randint(-reach, reach) for _ in range(channels))
                    found = read_vector(show_vector(vector))
                    self.assertEqual((found, found.__class__), (vector, tuple))
        self.assertEqual(read_vector(f"{DIGITS_40} -{DIGITS_40}"), (10 ** 40 - 1, 1 - 10 ** 40))

    def test_spoilt(self):
        for text in ("3 -4 5", "-1 0", "10 200", f"{FAR} {-FAR} 0"):
            for other in spoilt(text):
                numbers = tuple(plain_number(word) for word in other.split(" "))
                if None in numbers or len(numbers) not in (2, 3):
                    check_error(self, Unreadable, other, read_vector, other)
                else:
                    self.assertEqual(read_vector(other), numbers)

    def test_words(self):
        for word in BAD_WORDS:
            for text in (f"{word} 1", f"1 {word}", f"1 {word} 2", f"{word} {word}", word):
                check_error(self, Unreadable, text, read_vector, text)
        for text in ("", " ", "1", "1 2 3 4", "1  2", " 1 2", "1 2 ", "1,2", "1, 2", "(1 2)", "1;2", "1\t2", "1 2\n", "a b"):
            check_error(self, Unreadable, text, read_vector, text)
            check_error(self, Unreadable, text, read_vector, text=text)
        self.assertEqual(read_vector(text="0 0"), (0, 0))


class CallTest(unittest.TestCase):

    def test_returned_list_may_change(self):
        chain = read_chain("2; lift 0 0 -1 0 1; lift 1 1 0 0 2")
        chain.steps.clear()
        self.assertEqual(chain.steps, PAIR)
        self.assertEqual(read_chain("2; lift 0 0 -1 0 1; lift 1 1 0 0 2").steps, PAIR)


if __name__ == "__main__":
    unittest.main()
