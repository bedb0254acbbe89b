"""Points 2, 3, 4 and 6 and the interface of liftsteps/wrapped.py."""

import random
import unittest
from math import lcm

from liftsteps.chains import Chain
from liftsteps.errors import InvalidBox, InvalidNumber, InvalidVector
from liftsteps.wrapped import cycle_length, cycles, is_harmless, wrapped_after, wrapped_order
from tests.plain import FAR, PAIR, bad_boxes, bounded, check_error, done, small_boxes, told, walk

WIDEST = {2: 16, 3: 6}


def wrapped(steps, width, vector):
    """One round, with remainders after each step."""
    for step in steps:
        vector = tuple(entry % width for entry in done([step], vector))
    return vector


def plain_orbit(steps, width, vector):
    rows = [vector]
    while len(rows) == 1 or rows[-1] != vector:
        rows.append(wrapped(steps, width, rows[-1]))
    return rows[:-1]


def plain_lengths(channels, steps, width):
    """The lengths of all cycles, each one walked from its first vector."""
    seen, lengths = set(), []
    for vector in walk([(0, width - 1)] * channels):
        if vector not in seen:
            orbit = plain_orbit(steps, width, vector)
            seen.update(orbit)
            lengths.append(len(orbit))
    return lengths


def widths(source, channels):
    return [1, 2, source.randint(2, WIDEST[channels]), WIDEST[channels]]


class ExampleTest(unittest.TestCase):

    def test_document(self):
        pair = Chain(2, [("lift", 0, (0, -1), 0, 1), ("lift", 1, (1, 0), 0, 2)])
        found = [
            cycles(pair, 4), wrapped_order(pair, 4), wrapped_after(pair, 4, (0, 1), 10 ** 30),
            cycle_length(pair, 4, (0, 2)), is_harmless(pair, 4, [(2, 3), (0, 1)]),
        ]
        self.assertEqual(found, [[(1, 2), (5, 1), (9, 1)], 45, (3, 2), 5, True])


class WrappedAfterTest(unittest.TestCase):

    def test_samples(self):
        source = random.Random(211)
        for channels, steps in bounded(6, 211):
            chain = Chain(channels, steps)
            for width in widths(source, channels):
                vector = tuple(source.randrange(width) for _ in range(channels))
                rows = [vector]
                for _ in range(20):
                    rows.append(wrapped(steps, width, rows[-1]))
                for times in (0, 1, 2, 3, 19, 20):
                    found = wrapped_after(chain, width, vector, times)
                    self.assertEqual((found, found.__class__), (rows[times], tuple))
            self.assertEqual(told(chain), (channels, steps))

    def test_many_rounds(self):
        source = random.Random(212)
        for channels, steps in bounded(3, 212):
            chain = Chain(channels, steps)
            for width in widths(source, channels):
                vector = tuple(source.randrange(width) for _ in range(channels))
                orbit = plain_orbit(steps, width, vector)
                for times in (FAR, FAR - 1, 10 ** 30 + 7, len(orbit), len(orbit) - 1, 2 * len(orbit) + 1):
                    self.assertEqual(wrapped_after(chain, width, vector, times), orbit[times % len(orbit)])

    def test_remainders_after_each_step(self):
        # Not the remainder of F(v): in between 6 has become 2.
        chain = Chain(2, [("lift", 0, (0, 0), 3, 1), ("lift", 1, (1, 0), 0, 2)])
        self.assertEqual(wrapped_after(chain, 4, (3, 0), 1), (2, 1))
        self.assertEqual([entry % 4 for entry in chain.at((3, 0))], [2, 3])
        self.assertEqual(wrapped_after(Chain(2, [("turn", 0)]), 5, (2, 0), 1), (3, 0))
        self.assertEqual(wrapped_after(Chain(2, [("turn", 0)]), 5, (0, 0), 1), (0, 0))

    def test_width_1(self):
        for channels, steps in bounded(2, 213):
            chain, zero = Chain(channels, steps), (0,) * channels
            self.assertEqual(wrapped_after(chain, 1, zero, FAR), zero)
            self.assertEqual((cycle_length(chain, 1, zero), wrapped_order(chain, 1)), (1, 1))
            self.assertEqual(cycles(chain, 1), [(1, 1)])

    def test_so_many_and_more(self):
        source = random.Random(214)
        for channels, steps in bounded(3, 214):
            chain, back = Chain(channels, steps), Chain(channels, steps).inverse()
            width = source.randint(2, WIDEST[channels])
            vector = tuple(source.randrange(width) for _ in range(channels))
            between = wrapped_after(chain, width, vector, FAR - 4)
            behind = wrapped_after(chain, width, between, 10 ** 20)
            self.assertEqual(behind, wrapped_after(chain, width, vector, FAR - 4 + 10 ** 20))
            self.assertEqual(wrapped_after(back, width, behind, 10 ** 20), between)
            self.assertEqual(wrapped_after(back, width, between, FAR - 4), vector)


class CyclesTest(unittest.TestCase):

    def test_samples(self):
        source, orders = random.Random(221), set()
        for channels, steps in bounded(5, 221):
            chain = Chain(channels, steps)
            for width in widths(source, channels):
                lengths = plain_lengths(channels, steps, width)
                expected = [(length, lengths.count(length)) for length in sorted(set(lengths))]
                found = cycles(chain, width)
                self.assertEqual((found, found.__class__), (expected, list))
                self.assertEqual(sum(length * number for length, number in found), width ** channels)
                self.assertEqual(wrapped_order(chain, width), lcm(*lengths))
                orders.add(wrapped_order(chain, width))
            self.assertEqual(told(chain), (channels, steps))
        self.assertGreater(max(orders), 10 ** 4)

    def test_cycle_lengths(self):
        source = random.Random(222)
        for channels, steps in bounded(4, 222):
            chain = Chain(channels, steps)
            for width in widths(source, channels):
                for _ in range(3):
                    vector = tuple(source.randrange(width) for _ in range(channels))
                    self.assertEqual(cycle_length(chain, width, vector), len(plain_orbit(steps, width, vector)))

    def test_orders(self):
        for channels, steps in bounded(2, 223):
            chain, width = Chain(channels, steps), 5
            order = wrapped_order(chain, width)
            for vector in walk([(0, width - 1)] * channels)[::9]:
                self.assertEqual(wrapped_after(chain, width, vector, order), vector)
                self.assertEqual(order % cycle_length(chain, width, vector), 0)

    def test_without_rounding_it_is_the_remainder(self):
        for channels, steps in bounded(3, 224, most=1):
            for width in (2, 5, WIDEST[channels]):
                for vector in walk([(0, width - 1)] * channels)[::17]:
                    remainder = tuple(entry % width for entry in done(steps, vector))
                    self.assertEqual(wrapped_after(Chain(channels, steps), width, vector, 1), remainder)

    def test_known(self):
        none, swap, turn = Chain(2, []), Chain(2, [("swap", 0, 1)]), Chain(3, [("turn", 0)])
        self.assertEqual([cycles(none, 16), wrapped_order(none, 16)], [[(1, 256)], 1])
        self.assertEqual([cycles(swap, 16), wrapped_order(swap, 16)], [[(1, 16), (2, 120)], 2])
        self.assertEqual([cycles(turn, 6), wrapped_order(turn, 6)], [[(1, 72), (2, 72)], 2])
        self.assertEqual([cycles(turn, 2), wrapped_order(turn, 2)], [[(1, 8)], 1])
        grow = Chain(2, [("lift", 0, (0, 0), 1, 1)])
        self.assertEqual([cycles(grow, 16), cycle_length(grow, 16, (3, 4))], [[(16, 16)], 16])
        self.assertEqual(wrapped_after(grow, 16, (3, 4), FAR), ((3 + FAR) % 16, 4))


class IsHarmlessTest(unittest.TestCase):

    def test_small_boxes(self):
        source, answers = random.Random(231), []
        for channels, steps in bounded(8, 231):
            chain = Chain(channels, steps)
            for box in small_boxes(source, channels):
                low = min(low for low, _ in box)
                box = [(k - low, j - low) for k, j in box]
                rows = [row for v in walk(box) for row in plain_rows_of(steps, v)]
                high = max(max(row) for row in rows)
                for width in {max(1, high), high + 1, high + 2, 1, 16}:
                    if width >= 1:
                        answer = is_harmless(chain, width, box)
                        self.assertIs(answer, all(0 <= entry < width for row in rows for entry in row))
                        answers.append(answer)
            self.assertEqual(told(chain), (channels, steps))
        self.assertGreater(min(answers.count(True), answers.count(False)), 60)

    def test_harmless_rounds_have_no_remainders(self):
        for channels, steps in bounded(6, 232):
            chain, width = Chain(channels, steps), WIDEST[channels]
            box = [(0, 2)] * channels
            if is_harmless(chain, width, box):
                for vector in walk(box):
                    self.assertEqual(wrapped_after(chain, width, vector, 1), chain.at(vector))

    def test_far_boxes(self):
        half = Chain(2, [("lift", 1, (1, 0), 0, 2)])
        top = 10 ** 30
        # The greatest value is 1.5 times the top.
        self.assertIs(is_harmless(half, top + top // 2 + 1, [(0, top), (0, top)]), True)
        self.assertIs(is_harmless(half, top + top // 2, [(0, top), (0, top)]), False)
        self.assertIs(is_harmless(half, FAR, [(-1, top), (0, top)]), False)
        self.assertIs(is_harmless(half, FAR, [(0, top), (1, top)]), True)
        # A row between leaves, and the last one is back.
        there = Chain(3, [("lift", 0, (0, 0, -1), 0, 1), ("lift", 0, (0, 0, 1), 0, 1)])
        self.assertIs(is_harmless(there, FAR, [(top, top), (0, top), (0, top)]), True)
        self.assertIs(is_harmless(there, FAR, [(top - 1, top), (0, top), (0, top)]), False)
        self.assertIs(is_harmless(Chain(3, [("turn", 0)]), FAR, [(0, 0), (0, top), (0, top)]), True)
        self.assertIs(is_harmless(Chain(3, [("turn", 0)]), FAR, [(0, 1), (0, top), (0, top)]), False)

    def test_row_0_counts(self):
        away = Chain(2, [("lift", 0, (0, 0), -5, 1)])
        self.assertIs(is_harmless(away, 4, [(5, 8), (0, 3)]), False)
        self.assertIs(is_harmless(Chain(2, []), 4, [(0, 4), (0, 3)]), False)
        self.assertIs(is_harmless(Chain(2, []), 4, [(0, 3), (0, 3)]), True)
        self.assertIs(is_harmless(Chain(2, []), 1, [(0, 0), (0, 0)]), True)
        self.assertIs(is_harmless(Chain(2, []), 1, [(-1, 0), (0, 0)]), False)


def plain_rows_of(steps, vector):
    return [done(steps[:many], vector) for many in range(len(steps) + 1)]


class ErrorTest(unittest.TestCase):

    def calls(self, chain):
        """Of each function a call with a width, and further arguments that are wrong, too."""
        channels = chain.channels
        wrong, good = (-1,) * channels, (0,) * channels
        return [
            lambda width: wrapped_after(chain, width, good, 1), lambda width: wrapped_after(chain, width, wrong, -1),
            lambda width: cycle_length(chain, width, good), lambda width: cycle_length(chain, width, wrong),
            lambda width: cycles(chain, width), lambda width: wrapped_order(chain, width),
            lambda width: is_harmless(chain, width, [(0, 0)] * channels), lambda width: is_harmless(chain, width, []),
        ]

    def test_widths(self):
        for channels in (2, 3):
            chain = Chain(channels, [("turn", 0), ("lift", 1, (1, 0, 0)[:channels], 0, 3)])
            for width in (0, -1, -16, -FAR):
                for call in self.calls(chain):
                    check_error(self, InvalidNumber, width, call, width)
                check_error(self, InvalidNumber, width, cycles, width=width, chain=chain)
                check_error(self, InvalidNumber, width, wrapped_order, width=width, chain=chain)
            self.assertEqual(cycles(chain, 1), [(1, 1)])

    def test_vectors(self):
        for width, vector, channel in (
            (4, (4, 0), 0), (4, (0, 4), 1), (4, (-1, 4), 0), (4, (3, -1), 1), (1, (0, 1), 1), (16, (FAR, -FAR), 0),
            (6, (5, 5, 6), 2), (6, (5, -1, 6), 1), (6, (-FAR, -1, 6), 0), (1, (0, 0, -1), 2),
        ):
            chain = Chain(len(vector), [("swap", 0, 1)])
            for times in (0, 5, FAR, -1):
                check_error(self, InvalidVector, channel, wrapped_after, chain, width, vector, times)
            check_error(self, InvalidVector, channel, cycle_length, chain, width, vector)
            check_error(self, InvalidVector, channel, cycle_length, vector=vector, width=width, chain=chain)
            self.assertEqual(cycle_length(chain, width, (0,) * len(vector)), 1)

    def test_times(self):
        chain = Chain(2, PAIR)
        for times in (-1, -2, -FAR):
            check_error(self, InvalidNumber, times, wrapped_after, chain, 4, (0, 1), times)
            check_error(self, InvalidNumber, times, wrapped_after, times=times, vector=(0, 1), width=4, chain=chain)
        self.assertEqual(wrapped_after(chain, 4, (0, 1), 0), (0, 1))

    def test_boxes(self):
        for channels in (2, 3):
            chain = Chain(channels, [("turn", 0)])
            for box, value in bad_boxes(channels):
                before = list(box)
                check_error(self, InvalidBox, value, is_harmless, chain, 4, box)
                check_error(self, InvalidBox, value, is_harmless, box=box, width=1, chain=chain)
                self.assertEqual(box, before)
            self.assertIs(is_harmless(chain, 1, [(0, 0)] * channels), True)


class CallTest(unittest.TestCase):

    def test_names(self):
        pair = Chain(2, PAIR)
        self.assertEqual(wrapped_after(times=10 ** 30, vector=(0, 1), width=4, chain=pair), (3, 2))
        self.assertEqual(cycle_length(vector=(0, 2), width=4, chain=pair), 5)
        self.assertEqual(cycles(width=4, chain=pair), [(1, 2), (5, 1), (9, 1)])
        self.assertEqual(wrapped_order(width=4, chain=pair), 45)
        self.assertIs(is_harmless(box=[(2, 3), (0, 1)], width=4, chain=pair), True)

    def test_returned_list_may_change(self):
        pair, box = Chain(2, PAIR), [(2, 3), (0, 1)]
        found = cycles(pair, 4)
        found[0] = (9, 9)
        found.append(1)
        self.assertEqual(cycles(pair, 4), [(1, 2), (5, 1), (9, 1)])
        cycles(pair, 4).clear()
        self.assertEqual(cycles(pair, 4), [(1, 2), (5, 1), (9, 1)])
        is_harmless(pair, 4, box)
        self.assertEqual((box, told(pair)), ([(2, 3), (0, 1)], (2, PAIR)))


if __name__ == "__main__":
    unittest.main()
