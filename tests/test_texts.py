"""Points 2 and 4 and the interface of liftsteps/texts.py."""

import unittest

from liftsteps.chains import Chain
from liftsteps.texts import show_chain, show_step, show_vector
from tests.plain import FAR, PAIR, bounded, samples, told


def plain_text(step):
    """The items of a step one after another, those of weights among them."""
    words = []
    for item in step:
        words += [str(part) for part in item] if isinstance(item, tuple) else [str(item)]
    return " ".join(words)


class ExampleTest(unittest.TestCase):

    def test_document(self):
        found = [
            show_step(("lift", 1, (1, 0), -2, 3)), show_chain(Chain(3, [("turn", 2), ("swap", 0, 1)])),
            show_vector((-1, 0)),
        ]
        self.assertEqual(found, ["lift 1 1 0 -2 3", "3; turn 2; swap 0 1", "-1 0"])


class TextsTest(unittest.TestCase):

    def test_steps(self):
        for channels, steps in samples() + bounded(5, 241):
            for step in steps:
                self.assertEqual(show_step(step), plain_text(step))
        self.assertEqual(show_step(("lift", 2, (-6, 4, 0), 0, 1)), "lift 2 -6 4 0 0 1")
        self.assertEqual(show_step(("lift", 0, (0, FAR), -FAR, 10 ** 39)), f"lift 0 0 {FAR} {-FAR} {10 ** 39}")
        self.assertEqual(show_step(("turn", 0)), "turn 0")
        self.assertEqual(show_step(step=("swap", 1, 2)), "swap 1 2")

    def test_chains(self):
        for channels, steps in samples() + bounded(5, 242):
            chain = Chain(channels, steps)
            self.assertEqual(show_chain(chain), "; ".join([str(channels)] + [plain_text(step) for step in steps]))
            self.assertEqual(told(chain), (channels, steps))
        self.assertEqual([show_chain(Chain(2, [])), show_chain(chain=Chain(3, []))], ["2", "3"])
        self.assertEqual(show_chain(Chain(2, PAIR)), "2; lift 0 0 -1 0 1; lift 1 1 0 0 2")

    def test_of_a_chain_beyond_the_bounds(self):
        chain = Chain(2, PAIR * 200)
        self.assertEqual(show_chain(chain), "2" + "; lift 0 0 -1 0 1; lift 1 1 0 0 2" * 200)

    def test_vectors(self):
        for vector, text in (
            ((0, 0), "0 0"), ((3, -4, 5), "3 -4 5"), ((FAR, -FAR), f"{FAR} {-FAR}"),
            ((10 ** 39, 1 - 10 ** 40, 7), "1" + "0" * 39 + " -" + "9" * 40 + " 7"),
        ):
            self.assertEqual(show_vector(vector), text)
            self.assertEqual(show_vector(vector=vector), text)


if __name__ == "__main__":
    unittest.main()
