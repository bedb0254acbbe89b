"""Points 2, 4 and 8 and the interface of liftsteps/chains.py."""

import unittest
from fractions import Fraction
from itertools import product
from math import floor, lcm

from liftsteps.chains import Chain
from liftsteps.errors import InvalidChain, LiftError, OtherChannels
from tests.plain import FAR, PAIR, plainly, samples, told

GOOD = {
    2: [("lift", 0, (0, -6), 20, 6), ("lift", 1, (5, 0), -20, 1), ("swap", 0, 1), ("turn", 0), ("turn", 1)],
    3: [
        ("lift", 0, (0, 1, -2), 3, 2), ("lift", 1, (-4, 0, 4), 0, 3), ("lift", 2, (0, 0, 0), 1, 1),
        ("swap", 0, 1), ("swap", 0, 2), ("swap", 1, 2), ("turn", 0), ("turn", 1), ("turn", 2),
    ],
}
BAD = {
    "word": {
        2: [("hop", 0), ("Turn", 0), ("", 0), ("lifts", 0, (0, 1), 0, 1), ("down", 0, 1), ("turn ", 1)],
        3: [("hop", 0), ("drop", 0, (0, 1, 1), 0, 1)],
    },
    "number of items": {
        2: [
            ("lift",), ("lift", 0), ("lift", 0, (0, 1), 0), ("lift", 0, (0, 1), 0, 1, 1), ("lift", 0, 1),
            ("lift", 0, 0, 1, 0, 1), ("swap",), ("swap", 0), ("swap", 0, 1, 1), ("turn",), ("turn", 0, 1),
            ("swap", 0, (0, 1), 0, 1), ("turn", 0, (0, 1), 0, 1), ("turn", 1, 0),
        ],
        3: [("lift", 0, (0, 1, 1), 0), ("swap", 0, 1, 2), ("turn", 0, 1, 2), ("swap", 1)],
    },
    "number of weights": {
        2: [
            ("lift", 0, (), 0, 1), ("lift", 0, (0,), 0, 1), ("lift", 0, (0, 1, 1), 0, 1), ("lift", 1, (1,), 0, 1),
            ("lift", 1, (1, 0, 0), 0, 1),
        ],
        3: [("lift", 0, (0, 1), 0, 1), ("lift", 2, (1, 1), 0, 1), ("lift", 0, (0, 1, 1, 1), 0, 1)],
    },
    "channel": {
        2: [
            ("lift", 2, (0, 0), 0, 1), ("lift", -1, (1, 0), 0, 1), ("lift", -2, (0, 1), 0, 1), ("turn", 2),
            ("turn", -1), ("turn", FAR), ("swap", 0, 2), ("swap", -1, 0), ("swap", -1, 1), ("swap", 2, 3),
        ],
        3: [
            ("lift", 3, (0, 0, 0), 0, 1), ("lift", -1, (1, 1, 0), 0, 1), ("turn", 3), ("turn", -3), ("swap", 0, 3),
            ("swap", 1, FAR), ("swap", -3, 2),
        ],
    },
    "own weight": {
        2: [("lift", 0, (1, 0), 0, 1), ("lift", 1, (0, -1), 0, 1), ("lift", 1, (1, FAR), 0, 1)],
        3: [("lift", 0, (1, 0, 0), 0, 1), ("lift", 1, (0, 2, 0), 0, 1), ("lift", 2, (0, 0, -6), 0, 1)],
    },
    "divisor": {
        2: [("lift", 0, (0, 1), 0, 0), ("lift", 1, (1, 0), 0, -1), ("lift", 1, (1, 0), 0, -FAR)],
        3: [("lift", 0, (0, 1, 0), 0, 0), ("lift", 1, (1, 0, 1), 0, -2)],
    },
    "order of a swap": {
        2: [("swap", 0, 0), ("swap", 1, 1), ("swap", 1, 0)],
        3: [("swap", 2, 2), ("swap", 2, 0), ("swap", 2, 1), ("swap", 1, 0)],
    },
    "kind": {
        2: [("lift", 0, 0, 0, 1), ("lift", (0, 1), 0, 1, 1), ("lift", 0, (0, 1), (1,), 1), ("turn", (0, 1)),
            ("swap", 0, (0, 1)), ()],
        3: [("lift", 0, 1, 0, 1)],
    },
}


def vectors(channels):
    near = list(product((-7, -2, -1, 0, 1, 3), repeat=channels))[::5]
    far = [(FAR, -FAR, 3), (-FAR - 1, FAR - 1, -FAR), (10 ** 300, 7, -10 ** 299), (0, -FAR, -1)]
    return near + [vector[:channels] for vector in far]


def stepped(step, vector):
    """What a step does, worked out with fractions."""
    row = list(vector)
    if step[0] == "lift":
        _, channel, weights, more, divisor = step
        row[channel] += floor(Fraction(sum(a * b for a, b in zip(weights, vector)) + more, divisor))
    elif step[0] == "swap":
        row[step[1]], row[step[2]] = vector[step[2]], vector[step[1]]
    else:
        row[step[1]] = 0 - vector[step[1]]
    return tuple(row)


def rows_of(steps, vector):
    rows = [vector]
    for step in steps:
        rows.append(stepped(step, rows[-1]))
    return rows


class ConstructionTest(unittest.TestCase):

    def test_channels_steps_and_length(self):
        for channels, steps in samples():
            chain = Chain(channels, steps)
            self.assertEqual((chain.channels, chain.steps, len(chain)), (channels, steps, len(steps)))
            self.assertEqual(told(Chain(steps=steps, channels=channels)), (channels, steps))

    def test_every_good_step(self):
        for channels, steps in GOOD.items():
            self.assertEqual(Chain(channels, steps).steps, steps)
            for step in steps:
                self.assertEqual(Chain(channels, [step]).steps, [step])

    def test_beyond_the_bounds(self):
        steps = [("lift", 0, (0, 10 ** 40), -10 ** 50, 10 ** 30), ("turn", 1)] * 20
        self.assertEqual(Chain(2, steps).steps, steps)

    def test_handed_list_may_change(self):
        steps = list(PAIR)
        chain = Chain(2, steps)
        steps.append(("turn", 0))
        steps[0] = ("turn", 1)
        self.assertEqual((chain.steps, len(chain), chain.at((5, 2))), (PAIR, 2, (3, 3)))

    def test_told_lists_may_change(self):
        chain = Chain(2, PAIR)
        steps, path = chain.steps, chain.path((5, 2))
        steps.pop()
        path.clear()
        self.assertEqual((chain.steps, chain.path((5, 2))), (PAIR, [(5, 2), (3, 2), (3, 3)]))
        self.assertIsNot(chain.steps, chain.steps)
        inverse, both = chain.inverse(), chain.followed_by(chain)
        inverse.steps.clear()
        both.steps.clear()
        self.assertEqual((len(inverse), len(both)), (2, 4))


class ChainCheckTest(unittest.TestCase):

    def check(self, channels, steps, value):
        before = list(steps)
        with self.assertRaises(InvalidChain) as caught:
            Chain(channels, steps)
        self.assertEqual(caught.exception.value, value)
        self.assertIs(caught.exception.__class__, InvalidChain)
        self.assertEqual(steps, before)

    def test_number_of_channels(self):
        for channels in (1, 0, -1, -2, -3, 4, 5, FAR, -FAR):
            self.check(channels, [], None)
            self.check(channels, [("turn", 0)], None)

    def test_number_of_channels_comes_first(self):
        self.check(1, [("hop", 0)], None)
        self.check(4, [("lift", 0, (0, 0, 0, 0), 0, 0)], None)
        self.check(1, [("turn", 5), ("swap", 1, 0)], None)

    def test_each_condition_by_itself(self):
        for name, wrong in BAD.items():
            for channels, steps in wrong.items():
                for step in steps:
                    with self.subTest(condition=name, channels=channels, step=step):
                        self.check(channels, [step], 0)

    def test_wrong_step_behind_right_ones(self):
        for wrong in BAD.values():
            for channels, steps in wrong.items():
                good = GOOD[channels]
                for step in steps:
                    self.check(channels, [good[0], step], 1)
                    self.check(channels, good[:3] + [step] + good[3:], 3)
                    self.check(channels, good + [step], len(good))

    def test_first_of_several_wrong_steps(self):
        self.check(2, [("turn", 0), ("turn", 2), ("hop", 0)], 1)
        self.check(2, [("hop", 0), ("turn", 2)], 0)
        self.check(2, [("turn", 0), ("swap", 0, 1), ("lift", 0, (0, 1), 0, 0), ("turn", 1), ("swap", 1, 0)], 2)
        self.check(3, [("swap", 0, 1), ("swap", 2, 1), ("lift", 0, (1, 0), 0, 0), ("swap", 2, 1)], 1)

    def test_step_of_another_number_of_channels(self):
        self.check(2, [("turn", 1), ("turn", 2)], 1)
        self.check(2, [("swap", 1, 2)], 0)
        self.check(3, PAIR, 0)
        self.check(2, [("lift", 0, (0, 1, 1), 0, 1)], 0)


class EqualityTest(unittest.TestCase):

    def test_samples(self):
        found = samples(each=2) + samples(each=1)
        for (channels, steps), (others, other_steps) in product(found, found):
            same = channels == others and steps == other_steps
            self.assertIs(Chain(channels, steps) == Chain(others, other_steps), same)
            self.assertIs(Chain(channels, steps) != Chain(others, other_steps), not same)

    def test_unequal(self):
        chain = Chain(2, PAIR)
        self.assertFalse(chain == Chain(2, PAIR[::-1]))
        self.assertFalse(chain == Chain(2, PAIR[:1]))
        self.assertFalse(Chain(2, []) == Chain(3, []))
        self.assertFalse(Chain(2, [("turn", 0)]) == Chain(3, [("turn", 0)]))
        self.assertFalse(Chain(2, [("turn", 0)]) == Chain(2, [("turn", 1)]))
        # Two chains that do the same may be unequal.
        self.assertFalse(Chain(2, []) == Chain(2, [("turn", 0), ("turn", 0)]))

    def test_nothing_else_is_equal(self):
        for chain in (Chain(2, PAIR), Chain(3, [])):
            others = (chain.steps, told(chain), [], None, "chain", "2", 2, 3, True, {}, object())
            for other in others:
                self.assertIs(chain == other, False)
                self.assertIs(other == chain, False)
                self.assertIs(chain != other, True)


class PathTest(unittest.TestCase):

    def test_samples(self):
        for channels, steps in samples(divisors=(1, 2, 3, 4, 5, 6)):
            chain = Chain(channels, steps)
            for vector in vectors(channels):
                rows = rows_of(steps, vector)
                self.assertEqual(chain.path(vector), rows)
                self.assertEqual(chain.at(vector), rows[-1])
            self.assertEqual(told(chain), (channels, steps))

    def test_division_rounds_down(self):
        half = Chain(2, [("lift", 1, (1, 0), 0, 2)])
        self.assertEqual([half.at((k, 0))[1] for k in range(-5, 6)], [-3, -2, -2, -1, -1, 0, 0, 1, 1, 2, 2])
        self.assertEqual(half.at((-FAR - 1, 0)), (-FAR - 1, -FAR // 2 - 1))
        third = Chain(3, [("lift", 2, (-1, 1, 0), -2, 3)])
        self.assertEqual(third.path((0, 0, 10)), [(0, 0, 10), (0, 0, 9)])
        self.assertEqual(third.at((0, 2, 10)), (0, 2, 10))
        self.assertEqual(third.at((2, 0, 10)), (2, 0, 8))

    def test_swap_and_turn(self):
        chain = Chain(3, [("swap", 0, 2), ("turn", 1), ("swap", 1, 2), ("turn", 0)])
        self.assertEqual(chain.path((1, 2, 3)), [(1, 2, 3), (3, 2, 1), (3, -2, 1), (3, 1, -2), (-3, 1, -2)])

    def test_no_step(self):
        for channels in (2, 3):
            for vector in vectors(channels):
                self.assertEqual(Chain(channels, []).path(vector), [vector])
                self.assertEqual(Chain(channels, []).at(vector), vector)

    def test_kinds_and_names(self):
        chain = Chain(2, PAIR)
        self.assertEqual(chain.path(vector=(5, 2)), chain.path((5, 2)))
        self.assertEqual(chain.at(vector=(5, 2)), (3, 3))
        self.assertIs(chain.path((5, 2)).__class__, list)
        self.assertEqual([row.__class__ for row in chain.path((5, 2))], [tuple] * 3)
        self.assertIs(chain.at((5, 2)).__class__, tuple)
        self.assertIs(chain.steps.__class__, list)


class InverseTest(unittest.TestCase):

    def test_takes_back(self):
        for channels, steps in samples(divisors=(1, 2, 3, 4, 5, 6)):
            chain = Chain(channels, steps)
            inverse = chain.inverse()
            self.assertEqual((inverse.channels, len(inverse), inverse.grid()), (channels, len(steps), chain.grid()))
            for vector in vectors(channels):
                self.assertEqual(inverse.at(chain.at(vector)), vector)
                self.assertEqual(chain.at(inverse.at(vector)), vector)
                self.assertEqual(inverse.path(chain.at(vector)), chain.path(vector)[::-1])
            self.assertEqual(told(chain), (channels, steps))

    def test_inverse_of_the_inverse(self):
        for channels, steps in samples():
            chain = Chain(channels, steps)
            self.assertEqual(chain.inverse().inverse(), chain)

    def test_told_steps(self):
        steps = [("lift", 0, (0, 2, -3), 5, 4), ("swap", 1, 2), ("turn", 0), ("lift", 2, (0, 1, 0), -2, 1)]
        told_steps = [("lift", 2, (0, -1, 0), 2, 1), ("turn", 0), ("swap", 1, 2), ("lift", 0, (0, -2, 3), -2, 4)]
        self.assertEqual(Chain(3, steps).inverse().steps, told_steps)
        self.assertEqual(Chain(2, []).inverse(), Chain(2, []))
        self.assertEqual(Chain(3, []).inverse(), Chain(3, []))


class FollowedByTest(unittest.TestCase):

    def test_samples(self):
        found = samples(each=4)
        for (channels, steps), (others, other_steps) in zip(found, found[1:]):
            if channels == others:
                first, second = Chain(channels, steps), Chain(others, other_steps)
                both = first.followed_by(second)
                self.assertEqual(told(both), (channels, steps + other_steps))
                for vector in vectors(channels):
                    self.assertEqual(both.at(vector), second.at(first.at(vector)))
                self.assertEqual((told(first), told(second)), ((channels, steps), (channels, other_steps)))

    def test_order(self):
        grow, turn = Chain(2, [("lift", 0, (0, 0), 1, 1)]), Chain(2, [("turn", 0)])
        self.assertEqual(grow.followed_by(turn).path((4, 0)), [(4, 0), (5, 0), (-5, 0)])
        self.assertEqual(turn.followed_by(other=grow).path((4, 0)), [(4, 0), (-4, 0), (-3, 0)])

    def test_beyond_the_bounds(self):
        steps = [("lift", 0, (0, 5), -3, 6), ("lift", 1, (-6, 0), 20, 5), ("swap", 0, 1), ("turn", 1)]
        chain = long = Chain(2, steps)
        for _ in range(6):
            long = long.followed_by(long)
        self.assertEqual((long.channels, len(long), long.steps), (2, 256, steps * 64))
        self.assertEqual(long.path((3, -8)), rows_of(steps * 64, (3, -8)))
        self.assertEqual(long.inverse().at(long.at((3, -8))), (3, -8))
        self.assertEqual(long, Chain(2, steps * 64))
        self.assertFalse(long == chain)
        self.assertEqual(long.inverse().inverse(), long)

    def test_with_itself_and_with_none(self):
        chain = Chain(2, PAIR)
        self.assertEqual(chain.followed_by(chain).steps, PAIR + PAIR)
        self.assertEqual(chain.followed_by(Chain(2, [])), chain)
        self.assertEqual(Chain(2, []).followed_by(chain), chain)
        self.assertEqual(chain.steps, PAIR)

    def test_other_channels(self):
        pair, three = Chain(2, PAIR), Chain(3, [("turn", 2)])
        for first, second in ((pair, three), (three, pair), (Chain(2, []), Chain(3, []))):
            before = told(first), told(second)
            with self.assertRaises(OtherChannels) as caught:
                first.followed_by(second)
            self.assertEqual(caught.exception.value, second.channels)
            self.assertIsInstance(caught.exception, LiftError)
            self.assertEqual((told(first), told(second)), before)


class GridTest(unittest.TestCase):

    def test_samples(self):
        for channels, steps in samples():
            total = 1
            for step in steps:
                total *= step[4] if step[0] == "lift" else 1
            self.assertEqual(Chain(channels, steps).grid(), total)

    def test_without_a_lift(self):
        self.assertEqual(Chain(2, []).grid(), 1)
        self.assertEqual(Chain(3, []).grid(), 1)
        self.assertEqual(Chain(3, [("swap", 0, 1), ("turn", 2)]).grid(), 1)
        self.assertEqual(Chain(2, [("lift", 0, (0, 5), 3, 1)]).grid(), 1)

    def test_multiples_of_the_grid_are_periods(self):
        for channels, steps in samples(each=6):
            chain = Chain(channels, steps)
            grid = chain.grid()
            for period in vectors(channels)[::3]:
                parts = set()
                for vector in vectors(channels)[::2]:
                    moved = tuple(a + grid * b for a, b in zip(vector, period))
                    parts.add(tuple(a - b for a, b in zip(chain.at(moved), chain.at(vector))))
                self.assertEqual(len(parts), 1)

    def test_linear_part_tells_the_growth(self):
        for channels, steps in samples(each=6):
            chain = Chain(channels, steps)
            grid = chain.grid()
            for vector in vectors(channels)[::2]:
                moved = tuple(a + grid * b for a, b in zip(vector, vector))
                growth = [Fraction(entry) * grid for entry in plainly(steps, vector)]
                self.assertEqual([a - b for a, b in zip(chain.at(moved), chain.at(vector))], growth)


class AlikeTest(unittest.TestCase):

    def test_unlike_chains_part_near_zero(self):
        steps = [("lift", 1, (1, 0), 0, 2), ("lift", 0, (0, 1), 1, 3), ("lift", 1, (-1, 0), 0, 2)]
        halves = [("lift", 1, (1, 0), 0, 2), ("lift", 1, (1, 0), 1, 2)]
        chains = [steps[:many] + [("lift", 0, (0, 0), more, 1)] for many in range(4) for more in (0, 1)]
        chains += [halves, [("lift", 1, (1, 0), 0, 1)], steps[:2] + halves, [("swap", 0, 1)], []]
        answers = set()
        for first, second in product([Chain(2, each) for each in chains], repeat=2):
            units = ((1, 0), (0, 1))
            linear = [[plainly(chain.steps, unit) for unit in units] for chain in (first, second)]
            common = product(range(lcm(first.grid(), second.grid())), repeat=2)
            alike = linear[0] == linear[1] and all(first.at(vector) == second.at(vector) for vector in common)
            bound = (first.grid() + second.grid()) // 2
            near = product(range(-bound, bound + 1), repeat=2)
            self.assertEqual(alike, all(first.at(vector) == second.at(vector) for vector in near))
            answers.add((alike, first == second))
        self.assertEqual(answers, {(True, True), (True, False), (False, False)})


class ExampleTest(unittest.TestCase):

    def test_document(self):
        pair = Chain(2, [("lift", 0, (0, -1), 0, 1), ("lift", 1, (1, 0), 0, 2)])
        found = [pair.path((5, 2)), pair.at((-1, 0)), pair.inverse().steps, pair.inverse().at((3, 3))]
        self.assertEqual(found, [
            [(5, 2), (3, 2), (3, 3)], (-1, -1), [("lift", 1, (-1, 0), 1, 2), ("lift", 0, (0, 1), 0, 1)], (5, 2),
        ])


if __name__ == "__main__":
    unittest.main()
