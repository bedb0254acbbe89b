"""Points 2, 3, 5, 6 and 8 and the interface of liftsteps/distances.py."""

import random
import unittest
from fractions import Fraction
from math import gcd, lcm

from liftsteps.chains import Chain
from liftsteps.distances import distances, loss
from liftsteps.errors import InvalidChannel, InvalidNumber
from tests.plain import (
    FAR, PAIR, bad_channels, bounded, check_error, done, minus, plain_grid, plain_rows, plainly, told, undone, walk,
)

SIXTH = [("lift", 1, (1, 0), 0, 6)]
HALVES = [("lift", 1, (1, 0), 0, 2), ("lift", 1, (1, 0), 1, 2)]


def sides(rows):
    """The least and the greatest entry of each channel."""
    return [(min(column), max(column)) for column in zip(*rows)]


def plain_distances(channels, steps):
    """By a walk of all classes of vectors by the product of divisors."""
    lines = plain_rows(channels, steps)
    cells = walk([(0, plain_grid(steps) - 1)] * channels)
    gaps = [minus(done(steps, cell), [sum(a * b for a, b in zip(line, cell)) for line in lines]) for cell in cells]
    return [tuple((end.numerator, end.denominator) for end in map(Fraction, pair)) for pair in sides(gaps)]


def lost(steps, channel, unit, value):
    """What is lost if a value is cut and the steps are taken back, by the words of the document."""
    cut = list(value)
    cut[channel] = value[channel] // unit * unit
    return minus(undone(steps, cut), undone(steps, value))


def plain_loss(channels, steps, channel, unit):
    """By a walk of all values of F, of which each integer vector is one."""
    grid = plain_grid(steps)
    box = [(0, (lcm(grid, unit) if place == channel else grid) - 1) for place in range(channels)]
    return sides([lost(steps, channel, unit, value) for value in walk(box)])


class ExampleTest(unittest.TestCase):

    def test_document(self):
        pair = Chain(2, [("lift", 0, (0, -1), 0, 1), ("lift", 1, (1, 0), 0, 2)])
        self.assertEqual(
            [distances(pair), loss(pair, 0, 2)], [[((0, 1), (0, 1)), ((-1, 2), (0, 1))], [(-1, 0), (0, 0)]],
        )


class DistancesTest(unittest.TestCase):

    def test_samples(self):
        for channels, steps in bounded(9, 81):
            chain = Chain(channels, steps)
            self.assertEqual(distances(chain), plain_distances(channels, steps))
            self.assertEqual(told(chain), (channels, steps))

    def test_form(self):
        for channels, steps in bounded(3, 82):
            found = distances(Chain(channels, steps))
            self.assertEqual((found.__class__, len(found)), (list, channels))
            for pair in found:
                self.assertEqual((pair.__class__, [end.__class__ for end in pair]), (tuple, [tuple, tuple]))
                for top, bottom in pair:
                    self.assertEqual((top.__class__, bottom.__class__), (int, int))
                    self.assertGreaterEqual(bottom, 1)
                    self.assertEqual(gcd(top, bottom), 1)
                self.assertLessEqual(Fraction(*pair[0]), Fraction(*pair[1]))

    def test_no_steps_and_no_rounding(self):
        for channels in (2, 3):
            self.assertEqual(distances(Chain(channels, [])), [((0, 1), (0, 1))] * channels)
        for channels, steps in bounded(6, 83, most=1):
            # Without rounding only what the numbers more bring is told.
            zero = done(steps, (0,) * channels)
            self.assertEqual(distances(Chain(channels, steps)), [((k, 1), (k, 1)) for k in zero])

    def test_known(self):
        for steps, expected in (
            (SIXTH, [((0, 1), (0, 1)), ((-5, 6), (0, 1))]),
            ([("lift", 1, (1, 0), 5, 6)], [((0, 1), (0, 1)), ((0, 1), (5, 6))]),
            ([("lift", 1, (2, 0), 0, 6)], [((0, 1), (0, 1)), ((-2, 3), (0, 1))]),
            ([("lift", 1, (1, 0), 2, 4)], [((0, 1), (0, 1)), ((-1, 4), (1, 2))]),
            ([("lift", 0, (0, 0), -7, 6)], [((-2, 1), (-2, 1)), ((0, 1), (0, 1))]),
            (SIXTH + [("turn", 1)], [((0, 1), (0, 1)), ((0, 1), (5, 6))]),
            (SIXTH + [("swap", 0, 1)], [((-5, 6), (0, 1)), ((0, 1), (0, 1))]),
            # Both roundings together do nothing.
            (HALVES, [((0, 1), (0, 1)), ((0, 1), (0, 1))]),
            # A later step makes more of it.
            (SIXTH + [("lift", 0, (0, 3), 0, 1)], [((-5, 2), (0, 1)), ((-5, 6), (0, 1))]),
        ):
            self.assertEqual(distances(Chain(2, steps)), expected, steps)
        three = Chain(3, [("lift", 2, (1, 5, 0), 0, 6)])
        self.assertEqual(distances(three), [((0, 1), (0, 1)), ((0, 1), (0, 1)), ((-5, 6), (0, 1))])

    def test_all_vectors_are_within(self):
        source = random.Random(84)
        for channels, steps in bounded(4, 84):
            ends = [[Fraction(*end) for end in pair] for pair in distances(Chain(channels, steps))]
            for reach in (9, FAR):
                vector = tuple(source.randint(-reach, reach) for _ in range(channels))
                for gap, (least, greatest) in zip(minus(done(steps, vector), plainly(steps, vector)), ends):
                    self.assertTrue(least <= gap <= greatest)

    def test_a_turn_and_a_swap_behind(self):
        for channels, steps in bounded(4, 85):
            found = distances(Chain(channels, steps))
            least, greatest = found[1]
            turned = distances(Chain(channels, steps + [("turn", 1)]))
            mirrored = ((-greatest[0], greatest[1]), (-least[0], least[1]))
            self.assertEqual(turned, found[:1] + [mirrored] + found[2:])
            swapped = distances(Chain(channels, steps + [("swap", 0, 1)]))
            self.assertEqual(swapped, [found[1], found[0]] + found[2:])


class LossTest(unittest.TestCase):

    def test_samples(self):
        source = random.Random(91)
        for channels, steps in bounded(4, 91):
            chain = Chain(channels, steps)
            for channel in range(channels):
                unit = source.randint(1, 6)
                self.assertEqual(loss(chain, channel, unit), plain_loss(channels, steps, channel, unit))
            self.assertEqual(told(chain), (channels, steps))

    def test_all_units(self):
        for channels, steps in bounded(1, 92, most=4):
            for unit in range(1, 7):
                found = loss(Chain(channels, steps), channels - 1, unit)
                self.assertEqual(found, plain_loss(channels, steps, channels - 1, unit))

    def test_all_vectors_are_within(self):
        # The vectors of a box themselves, not their values.
        for channels, steps in bounded(1, 93, 4, 2):
            for unit in (1, 2, 3):
                found = loss(Chain(channels, steps), 0, unit)
                far = [(reach, -reach, 7 - reach)[:channels] for reach in (FAR, FAR + 1, 5 - FAR)]
                for vector in walk([(-5, 5)] * channels) + far:
                    row = lost(steps, 0, unit, done(steps, vector))
                    self.assertTrue(all(least <= k <= greatest for k, (least, greatest) in zip(row, found)))

    def test_unit_1_and_no_steps(self):
        for channels, steps in bounded(3, 94):
            self.assertEqual(loss(Chain(channels, steps), 0, 1), [(0, 0)] * channels)
        for unit in range(1, 7):
            self.assertEqual(loss(Chain(2, []), 0, unit), [(1 - unit, 0), (0, 0)])
            self.assertEqual(loss(Chain(2, []), 1, unit), [(0, 0), (1 - unit, 0)])
            self.assertEqual(loss(Chain(3, []), 2, unit), [(0, 0), (0, 0), (1 - unit, 0)])

    def test_known(self):
        self.assertEqual(loss(Chain(2, [("turn", 0)]), 0, 4), [(0, 3), (0, 0)])
        self.assertEqual(loss(Chain(2, [("swap", 0, 1)]), 0, 4), [(0, 0), (-3, 0)])
        # What is cut from a channel comes back in the other one, too.
        self.assertEqual(loss(Chain(2, SIXTH), 0, 2), [(-1, 0), (0, 0)])
        self.assertEqual(loss(Chain(2, [("lift", 1, (1, 0), 1, 2)]), 0, 2), [(-1, 0), (0, 1)])
        self.assertEqual(loss(Chain(2, SIXTH), 0, 5), [(-4, 0), (0, 1)])
        self.assertEqual(loss(Chain(2, SIXTH), 1, 5), [(0, 0), (-4, 0)])
        self.assertEqual(loss(Chain(2, [("lift", 1, (6, 0), 0, 1)]), 0, 6), [(-5, 0), (0, 30)])


class ErrorTest(unittest.TestCase):

    def test_channels(self):
        for channels in (2, 3):
            for steps in ([], [("lift", 0, (0, 1, 1)[:channels], 0, 3)]):
                chain = Chain(channels, steps)
                for channel in bad_channels(channels):
                    # Also with a wrong unit: the channel is told.
                    for unit in (1, 6, 0, -1, -FAR):
                        check_error(self, InvalidChannel, channel, loss, chain, channel, unit)
                        check_error(self, InvalidChannel, channel, loss, unit=unit, channel=channel, chain=chain)
                self.assertEqual(told(chain), (channels, steps))
                self.assertEqual(loss(chain, 0, 1), [(0, 0)] * channels)

    def test_units(self):
        for channels in (2, 3):
            chain = Chain(channels, [("turn", 1)])
            for channel in range(channels):
                for unit in (0, -1, -2, -6, -FAR):
                    check_error(self, InvalidNumber, unit, loss, chain, channel, unit)
                    check_error(self, InvalidNumber, unit, loss, unit=unit, channel=channel, chain=chain)
            self.assertEqual(loss(chain, 1, 2), [(0, 0), (0, 1), (0, 0)][:channels])


class CallTest(unittest.TestCase):

    def test_names(self):
        pair = Chain(2, PAIR)
        self.assertEqual(distances(chain=pair), distances(pair))
        self.assertEqual(loss(unit=2, channel=0, chain=pair), [(-1, 0), (0, 0)])
        self.assertEqual(loss(pair, 0, unit=2), [(-1, 0), (0, 0)])

    def test_returned_lists_may_change(self):
        for channels, steps in bounded(1, 95):
            chain = Chain(channels, steps)
            for call in (lambda: distances(chain), lambda: loss(chain, 1, 3)):
                before = list(call())
                found = call()
                self.assertIs(found.__class__, list)
                found[0] = ((9, 9), (9, 9))
                found.append(7)
                self.assertEqual(call(), before)
                call().clear()
                self.assertEqual(call(), before)
            self.assertEqual(told(chain), (channels, steps))


if __name__ == "__main__":
    unittest.main()
