"""Points 2, 3, 4 and 8 and the interface of liftsteps/simpler.py."""

import random
import unittest
from fractions import Fraction
from itertools import combinations
from math import ceil, floor

from liftsteps.alike import are_alike
from liftsteps.chains import Chain
from liftsteps.errors import InvalidNumber
from liftsteps.simpler import fewest_steps, may_exchange, may_leave, rounded
from tests.plain import FAR, PAIR, bounded, bounded_steps, check_error, done, plain_grid, plain_parting, told, walk

HALVES = [("lift", 1, (1, 0), 0, 2), ("lift", 1, (1, 0), 1, 2)]
WAYS = ["down", "up", "half up", "half down"]


def same(channels, steps, others):
    return plain_parting(channels, steps, others) is None


def filled(each, seed, longest):
    """Return chains of which some steps do nothing, or may go with others."""
    source = random.Random(seed)
    found = []
    for channels in (2, 3):
        for many in range(1, longest + 1):
            for _ in range(each):
                steps = bounded_steps(source, channels, many, 4)
                channel, place = source.randrange(channels), source.randrange(many + 1)
                zero = (0,) * channels
                steps[place:place] = source.choice([
                    [("turn", channel)] * 2, [("swap", 0, 1)] * 2, [("lift", channel, zero, 2, 3)],
                    [("lift", channel, zero, 1, 1), ("lift", channel, zero, -1, 1)], [("lift", channel, zero, 0, 1)],
                    [("turn", 0), ("turn", 1), ("swap", 0, 1)],
                ])
                found.append((channels, steps))
    return found


def plain_fewest(channels, steps):
    """All sublists of the steps, tried by the definition."""
    every = [list(numbers) for many in range(len(steps) + 1) for numbers in combinations(range(len(steps)), many)]
    kept = [numbers for numbers in every if same_at_hand(channels, steps, [steps[k] for k in numbers])]
    return min(kept, key=lambda numbers: (len(numbers), numbers))


def same_at_hand(channels, steps, others):
    """As `same`, with a look at a few vectors first, as most sublists do otherwise."""
    few = walk([(-1, 1)] * channels)
    return all(done(steps, v) == done(others, v) for v in few) and same(channels, steps, others)


def check_numbers(test, call, fewer):
    """Ask for numbers that are none of the steps of a chain, the last few ones left out."""
    for steps in (PAIR, PAIR + HALVES, [], [("turn", 0)]):
        chain, many = Chain(2, steps), len(steps) - fewer
        for number in {many, many + 1, many + 2, -1, -2, -len(steps), FAR, -FAR}.difference(range(many)):
            check_error(test, InvalidNumber, number, call, chain, number)
            check_error(test, InvalidNumber, number, call, number=number, chain=chain)
        test.assertEqual(told(chain), (2, steps))


class ExampleTest(unittest.TestCase):

    def test_document(self):
        pair = Chain(2, [("lift", 0, (0, -1), 0, 1), ("lift", 1, (1, 0), 0, 2)])
        both = Chain(2, [("lift", 1, (1, 0), 0, 2), ("lift", 1, (1, 0), 1, 2)])
        turned = Chain(2, [("swap", 0, 1), ("swap", 0, 1), ("turn", 0)])
        found = [
            rounded(pair, 1, "up").steps[1], may_exchange(both, 0), may_exchange(pair, 0), may_leave(both, 1),
            fewest_steps(turned),
        ]
        self.assertEqual(found, [("lift", 1, (1, 0), 1, 2), True, False, False, [2]])


class MayExchangeTest(unittest.TestCase):

    def test_samples(self):
        answers = []
        for channels, steps in bounded(4, 41) + filled(3, 42, 4):
            chain = Chain(channels, steps)
            for number in range(len(steps) - 1):
                others = steps[:number] + [steps[number + 1], steps[number]] + steps[number + 2:]
                answer = may_exchange(chain, number)
                self.assertIs(answer, same_at_hand(channels, steps, others))
                answers.append(answer)
            self.assertEqual(told(chain), (channels, steps))
        self.assertGreater(min(answers.count(True), answers.count(False)), 30)

    def test_known(self):
        for steps, answers in (
            ([("turn", 0), ("turn", 1)], [True]),
            ([("turn", 0), ("swap", 0, 1)], [False]),
            ([("swap", 0, 1)] * 3, [True, True]),
            ([("lift", 0, (0, 1), 0, 2), ("lift", 0, (0, 3), -4, 2), ("turn", 1)], [True, False]),
            ([("lift", 0, (0, 0), 0, 1), ("lift", 1, (6, 0), 0, 1)], [True]),
            ([("turn", 0), ("lift", 1, (0, 0), 3, 2)], [True]),
            ([("turn", 0), ("lift", 0, (0, 0), 3, 2)], [False]),
            # What a lift of the one channel adds counts in the other one, also far from zero only.
            ([("lift", 0, (0, 0), -6, 1), ("lift", 1, (1, 0), 0, 6)], [False]),
            ([("lift", 0, (0, 0), 1, 1), ("lift", 1, (1, 0), 2, 6)], [False]),
            ([("lift", 0, (0, 0), 1, 6), ("lift", 1, (1, 0), 0, 6)], [True]),
        ):
            chain = Chain(2, steps)
            self.assertEqual([may_exchange(chain, number) for number in range(len(steps) - 1)], answers)

    def test_wrong_numbers(self):
        # The last step has no next one.
        check_numbers(self, may_exchange, 1)
        self.assertIs(may_exchange(number=0, chain=Chain(2, HALVES)), True)


class MayLeaveTest(unittest.TestCase):

    def test_samples(self):
        answers = []
        for channels, steps in bounded(4, 43) + filled(6, 44, 4):
            chain = Chain(channels, steps)
            for number in range(len(steps)):
                answer = may_leave(chain, number)
                self.assertIs(answer, same_at_hand(channels, steps, steps[:number] + steps[number + 1:]))
                answers.append(answer)
            self.assertEqual(told(chain), (channels, steps))
        self.assertGreater(min(answers.count(True), answers.count(False)), 12)

    def test_known(self):
        for steps, answers in (
            ([("turn", 0), ("turn", 0)], [False, False]),
            ([("lift", 0, (0, 0), 0, 1)], [True]),
            ([("lift", 0, (0, 0), 5, 6), ("lift", 1, (0, 0), 6, 6), ("turn", 1)], [True, False, False]),
            ([("lift", 1, (1, 0), 0, 6)], [False]),
            ([("lift", 1, (0, 0), -1, 6)], [False]),
        ):
            chain = Chain(2, steps)
            self.assertEqual([may_leave(chain, number) for number in range(len(steps))], answers)

    def test_wrong_numbers(self):
        check_numbers(self, may_leave, 0)
        self.assertIs(may_leave(number=1, chain=Chain(2, HALVES)), False)


class FewestStepsTest(unittest.TestCase):

    def test_samples(self):
        shorter = 0
        for channels, steps in bounded(2, 45) + filled(4, 46, 4):
            chain = Chain(channels, steps)
            found = fewest_steps(chain)
            self.assertEqual(found, plain_fewest(channels, steps))
            self.assertIs(found.__class__, list)
            self.assertTrue(are_alike(chain, Chain(channels, [steps[number] for number in found])))
            shorter += len(found) < len(steps)
            self.assertEqual(told(chain), (channels, steps))
        self.assertGreater(shorter, 20)

    def test_known(self):
        nothing, turn, swap = ("lift", 0, (0, 0), 1, 2), ("turn", 0), ("swap", 0, 1)
        for steps, numbers in (
            ([], []),
            ([nothing], []),
            ([nothing] * 6, []),
            ([turn, turn], []),
            ([swap, turn, turn, swap], []),
            # Of several lists of as many steps the first one.
            ([turn, nothing, turn, nothing, turn], [0]),
            ([swap, swap, swap, turn], [0, 3]),
            ([turn, ("turn", 1), turn, turn], [0, 1]),
            ([nothing, turn, swap, swap, ("turn", 1), turn], [4]),
            # None can be left out.
            (PAIR, [0, 1]),
            (HALVES, [0, 1]),
            ([("lift", 1, (1, 0), 0, 2)] * 3, [0, 1, 2]),
            ([("lift", 1, (1, 0), 0, 1), ("lift", 1, (-1, 0), 0, 1), ("lift", 1, (2, 0), 0, 3)], [2]),
            # A lift does by itself what three do.
            ([("lift", 1, (1, 0), 0, 1), ("lift", 1, (1, 0), 0, 1), ("lift", 1, (2, 0), 0, 1),
              ("lift", 1, (-2, 0), 0, 1)], [2]),
        ):
            self.assertEqual(fewest_steps(Chain(2, steps)), numbers, steps)
        self.assertEqual(fewest_steps(Chain(3, [])), [])
        self.assertEqual(fewest_steps(chain=Chain(3, [("swap", 1, 2)] * 5)), [0])

    def test_a_chain_and_back_needs_no_step(self):
        for channels, steps in bounded(4, 47, 3, 2):
            chain = Chain(channels, steps)
            self.assertEqual(fewest_steps(chain.followed_by(chain.inverse())), [])

    def test_returned_list_may_change(self):
        for chain, numbers in ((Chain(2, PAIR), [0, 1]), (Chain(2, [("swap", 0, 1)] * 3), [0]), (Chain(2, []), [])):
            found = fewest_steps(chain)
            found.append(9)
            found[0] = 7
            self.assertEqual(fewest_steps(chain), numbers)
            fewest_steps(chain).clear()
            self.assertEqual(fewest_steps(chain), numbers)


def rounding(way, exact):
    """What a way makes of a fraction, by the words of the document."""
    return {
        "down": floor(exact), "up": ceil(exact), "half up": floor(exact + Fraction(1, 2)),
        "half down": ceil(exact - Fraction(1, 2)),
    }[way]


class RoundedTest(unittest.TestCase):

    def test_samples(self):
        for channels, steps in bounded(3, 48):
            chain = Chain(channels, steps)
            for number, step in enumerate(steps):
                for way in WAYS if step[0] == "lift" else []:
                    found = rounded(chain, number, way)
                    self.assertIs(found.__class__, Chain)
                    others = found.steps
                    self.assertEqual(others[:number] + others[number + 1:], steps[:number] + steps[number + 1:])
                    self.assertEqual(found.grid(), plain_grid(steps))
                    self.check_values(found, number, step, way)
            self.assertEqual(told(chain), (channels, steps))

    def check_values(self, chain, number, step, way):
        _, channel, weights, more, divisor = step
        for vector in walk([(-2, 2)] * chain.channels)[::3] + [(FAR, 1 - FAR, -FAR)[:chain.channels]]:
            before, behind = chain.path(vector)[number:number + 2]
            exact = Fraction(sum(a * b for a, b in zip(weights, before)) + more, divisor)
            grown = list(before)
            grown[channel] += rounding(way, exact)
            self.assertEqual(behind, tuple(grown))

    def test_numbers_more(self):
        # Of each divisor: what the number more grows by, for each way.
        for divisor, growths in {
            1: [0, 0, 0, 0], 2: [0, 1, 1, 0], 3: [0, 2, 1, 1], 4: [0, 3, 2, 1], 5: [0, 4, 2, 2], 6: [0, 5, 3, 2],
        }.items():
            for more in (0, 7, -20):
                chain = Chain(3, [("turn", 0), ("lift", 1, (3, 0, -6), more, divisor), ("swap", 0, 2)])
                for way, growth in zip(WAYS, growths):
                    self.assertEqual(rounded(chain, 1, way).steps, [
                        ("turn", 0), ("lift", 1, (3, 0, -6), more + growth, divisor), ("swap", 0, 2),
                    ])
                self.assertEqual(rounded(chain, 1, "down"), chain)

    def test_halves(self):
        found = {
            way: [rounded(Chain(2, [("lift", 1, (1, 0), 0, 2)]), 0, way).at((k, 0))[1] for k in range(-3, 4)]
            for way in WAYS
        }
        self.assertEqual(found, {
            "down": [-2, -1, -1, 0, 0, 1, 1], "up": [-1, -1, 0, 0, 1, 1, 2],
            "half up": [-1, -1, 0, 0, 1, 1, 2], "half down": [-2, -1, -1, 0, 0, 1, 1],
        })
        quarter = {
            way: [rounded(Chain(2, [("lift", 1, (1, 0), 0, 4)]), 0, way).at((k, 0))[1] for k in range(-3, 4)]
            for way in WAYS
        }
        self.assertEqual(quarter, {
            "down": [-1, -1, -1, 0, 0, 0, 0], "up": [0, 0, 0, 0, 1, 1, 1],
            "half up": [-1, 0, 0, 0, 0, 1, 1], "half down": [-1, -1, 0, 0, 0, 0, 1],
        })

    def test_wrong_numbers(self):
        lift = ("lift", 0, (0, 1), 0, 3)
        mixed = Chain(2, [("turn", 0), lift, ("swap", 0, 1), ("turn", 1), lift])
        for chain, numbers in (
            (mixed, [0, 2, 3, 5, 6, -1, -4, -5, FAR, -FAR]), (Chain(2, []), [0, 1, -1]),
            (Chain(3, [("swap", 0, 2)]), [0, 1, -1]),
        ):
            before = told(chain)
            for number in numbers:
                for way in WAYS:
                    check_error(self, InvalidNumber, number, rounded, chain, number, way)
                check_error(self, InvalidNumber, number, rounded, way="up", number=number, chain=chain)
            self.assertEqual(told(chain), before)
        self.assertEqual(rounded(mixed, 4, "up").steps[4], ("lift", 0, (0, 1), 2, 3))

    def test_names(self):
        pair = Chain(2, PAIR)
        self.assertEqual(rounded(way="up", number=1, chain=pair), rounded(pair, 1, "up"))
        found = rounded(pair, 1, "up")
        found.steps.clear()
        self.assertEqual((len(found), len(pair)), (2, 2))


if __name__ == "__main__":
    unittest.main()
