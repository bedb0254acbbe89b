"""Points 2, 3, 4, 6 and 8 and the interface of liftsteps/ranges.py."""

import random
import unittest
from itertools import product

from liftsteps.chains import Chain
from liftsteps.errors import InvalidBox, InvalidChannel, InvalidNumber
from liftsteps.ranges import ends, first_outside, ranges
from tests.plain import (
    FAR, PAIR, bad_boxes, bad_channels, bounded, check_error, done, plain_grid, small_boxes, told, walk,
)

SIXTH = [("lift", 1, (1, 0), 0, 6)]


def far_boxes(channels):
    return [
        [(-FAR, FAR), (-FAR, FAR), (-FAR, FAR)][:channels],
        [(FAR - 3, FAR), (-FAR, 4 - FAR), (-1, FAR)][:channels],
        [(-5, FAR), (FAR, FAR), (-FAR, -FAR)][:channels],
        [(-FAR, 0), (7, 10 ** 30 + 5), (-3, 2)][:channels],
    ]


def candidates(steps, box):
    """Vectors of a box among which each end of a channel is the first one that has it.

    All vectors that differ by multiples of the grid have values that grow evenly along each
    channel; so of these the ones at the corners are enough.
    """
    grid, edges = plain_grid(steps), []
    for low, high in box:
        near, last = range(low, min(high, low + grid - 1) + 1), range(max(low, high - grid + 1), high + 1)
        edges.append(sorted({*near, *last}))
    return list(product(*edges))


def plain_ends(steps, vectors, channel):
    """The first vectors with the least and with the greatest value of a channel."""
    values = [done(steps, vector)[channel] for vector in vectors]
    return (vectors[values.index(min(values))], vectors[values.index(max(values))])


def plain_ranges(channels, steps, vectors_of):
    """The ranges of all rows; the vectors to try are asked for each row."""
    found = []
    for many in range(len(steps) + 1):
        rows = [done(steps[:many], vector) for vector in vectors_of(steps[:many])]
        found.append([(min(row[k] for row in rows), max(row[k] for row in rows)) for k in range(channels)])
    return found


class ExampleTest(unittest.TestCase):

    def test_document(self):
        pair = Chain(2, [("lift", 0, (0, -1), 0, 1), ("lift", 1, (1, 0), 0, 2)])
        bytes_box = [(0, 255), (0, 255)]
        found = [
            ranges(pair, bytes_box)[1:], ends(pair, bytes_box, 1), first_outside(pair, bytes_box, 0, 255),
            ranges(pair, [(0, 10 ** 30), (5, 5)])[2],
        ]
        self.assertEqual(found, [
            [[(-255, 255), (0, 255)], [(-255, 255), (0, 255)]], ((0, 0), (255, 255)), (1, 0),
            [(-5, 999999999999999999999999999995), (2, 500000000000000000000000000002)],
        ])


class RangesTest(unittest.TestCase):

    def test_small_boxes(self):
        source = random.Random(3)
        for channels, steps in bounded(8, 51):
            chain = Chain(channels, steps)
            for box in small_boxes(source, channels):
                before, vectors = list(box), walk(box)
                found = ranges(chain, box)
                self.assertEqual(found, plain_ranges(channels, steps, lambda _, vectors=vectors: vectors))
                self.assertEqual((box, told(chain)), (before, (channels, steps)))

    def test_far_boxes(self):
        for channels, steps in bounded(1, 52, most=4) + bounded(1, 53):
            chain = Chain(channels, steps)
            for box in far_boxes(channels)[:4 if channels == 2 else 2]:
                expected = plain_ranges(channels, steps, lambda part, box=box: candidates(part, box))
                self.assertEqual(ranges(chain, box), expected)

    def test_without_steps_and_rows(self):
        for channels in (2, 3):
            box = [(-FAR, 5), (3, 3), (4, FAR)][:channels]
            self.assertEqual(ranges(Chain(channels, []), box), [box])
        for channels, steps in bounded(2, 54):
            box = [(0, 3), (-2, -2), (1, 2)][:channels]
            found = ranges(Chain(channels, steps), box)
            self.assertEqual((len(found), found[0]), (len(steps) + 1, box))
            self.assertEqual(found[:2], ranges(Chain(channels, steps[:1]), box))
            self.assertIs(found.__class__, list)
            self.assertTrue(all(row.__class__ is list and len(row) == channels for row in found))
            self.assertTrue(all(pair.__class__ is tuple and len(pair) == 2 for row in found for pair in row))

    def test_one_vector(self):
        for channels, steps in bounded(3, 55):
            for vector in ((3, -8, 5), (FAR, -FAR, FAR - 1), (-FAR, 0, 1)):
                box = [(entry, entry) for entry in vector[:channels]]
                rows = Chain(channels, steps).path(vector[:channels])
                self.assertEqual(ranges(Chain(channels, steps), box), [[(k, k) for k in row] for row in rows])

    def test_known(self):
        sixth = Chain(2, SIXTH)
        self.assertEqual(ranges(sixth, [(-FAR, FAR), (-1, 1)])[1], [(-FAR, FAR), (-1 - FAR // 6 - 1, FAR // 6 + 1)])
        self.assertEqual(ranges(sixth, [(0, 5), (2, 2)])[1], [(0, 5), (2, 2)])
        self.assertEqual(ranges(sixth, [(-1, 6), (2, 2)])[1], [(-1, 6), (1, 3)])
        # Both weights pull one channel, and what comes first counts in what follows.
        three = Chain(3, [("lift", 0, (0, 1, -1), 0, 1), ("turn", 0), ("swap", 0, 2)])
        self.assertEqual(ranges(three, [(0, 1), (0, 10), (0, FAR)]), [
            [(0, 1), (0, 10), (0, FAR)], [(-FAR, 11), (0, 10), (0, FAR)], [(-11, FAR), (0, 10), (0, FAR)],
            [(0, FAR), (0, 10), (-11, FAR)],
        ])
        # The rounding may reach further than the linear part does.
        halves = Chain(2, [("lift", 1, (1, 0), 0, 2), ("lift", 1, (1, 0), 0, 2), ("lift", 1, (-1, 0), 0, 1)])
        self.assertEqual(ranges(halves, [(-FAR, FAR), (0, 0)])[3], [(-FAR, FAR), (-1, 0)])

    def test_of_the_parts_of_a_box(self):
        for channels, steps in bounded(2, 56):
            chain = Chain(channels, steps)
            for place in range(channels):
                box = [(-40, FAR), (-FAR, 17), (3, 90)][:channels]
                low, high = box[place]
                for cut in (low, low + 1, high - 1, low + 33):
                    first = ranges(chain, box[:place] + [(low, cut)] + box[place + 1:])
                    second = ranges(chain, box[:place] + [(cut + 1, high)] + box[place + 1:])
                    both = [
                        [(min(a, c), max(b, d)) for (a, b), (c, d) in zip(row, other)]
                        for row, other in zip(first, second)
                    ]
                    self.assertEqual(ranges(chain, box), both)

    def test_a_chain_and_back(self):
        for channels, steps in bounded(4, 57, 3, 2):
            chain = Chain(channels, steps)
            for box in far_boxes(channels):
                found = ranges(chain.followed_by(chain.inverse()), box)
                self.assertEqual((found[-1], found[:len(steps) + 1]), (box, ranges(chain, box)))

    def test_grids_further_behind_each_other(self):
        # Moved by a multiple of the grid the box has values that are moved by its image.
        for channels, steps in bounded(3, 58):
            chain, grid = Chain(channels, steps), plain_grid(steps)
            box, zero = [(-3, 4), (0, 9), (2, 2)][:channels], (0,) * channels
            moved = [(low + grid * 10 ** 29, high + grid * 10 ** 29) for low, high in box]
            growth = [a - b for a, b in zip(done(steps, (grid * 10 ** 29,) * channels), done(steps, zero))]
            expected = [(low + more, high + more) for (low, high), more in zip(ranges(chain, box)[-1], growth)]
            self.assertEqual(ranges(chain, moved)[-1], expected)


class EndsTest(unittest.TestCase):

    def test_small_boxes(self):
        source = random.Random(4)
        for channels, steps in bounded(9, 61):
            chain = Chain(channels, steps)
            for box in small_boxes(source, channels):
                before, vectors = list(box), walk(box)
                for channel in range(channels):
                    self.assertEqual(ends(chain, box, channel), plain_ends(steps, vectors, channel))
                self.assertEqual((box, told(chain)), (before, (channels, steps)))

    def test_far_boxes(self):
        for channels, steps in bounded(2, 62):
            chain = Chain(channels, steps)
            for box in far_boxes(channels):
                vectors = candidates(steps, box)
                for channel in range(channels):
                    found = ends(chain, box, channel)
                    self.assertEqual(found, plain_ends(steps, vectors, channel))
                    last = ranges(chain, box)[-1][channel]
                    self.assertEqual(tuple(done(steps, vector)[channel] for vector in found), last)

    def test_first_of_many(self):
        low, high = -FAR, FAR
        plain = Chain(2, [])
        self.assertEqual(ends(plain, [(low, high), (low, high)], 0), ((low, low), (high, low)))
        self.assertEqual(ends(plain, [(low, high), (low, high)], 1), ((low, low), (low, high)))
        # Of a channel that does not change, all vectors reach both ends.
        self.assertEqual(ends(plain, [(4, 4), (low, high)], 0), ((4, low), (4, low)))
        sixth = Chain(2, SIXTH)
        self.assertEqual(ends(sixth, [(-14, 14), (0, 1)], 1), ((-14, 0), (12, 1)))
        self.assertEqual(ends(sixth, [(low, high), (3, 3)], 1), ((low, 3), (high - high % 6, 3)))
        self.assertEqual(ends(sixth, [(0, 5), (low, high)], 1), ((0, low), (0, high)))
        turned = Chain(2, [("lift", 1, (-1, 0), 0, 6), ("turn", 0)])
        self.assertEqual(ends(turned, [(-14, 14), (0, 1)], 1), ((13, 0), (-14, 1)))
        self.assertEqual(ends(turned, [(-14, 13), (0, 1)], 1), ((13, 0), (-14, 1)))
        self.assertEqual(ends(turned, [(-13, 12), (0, 1)], 1), ((7, 0), (-13, 1)))
        self.assertEqual(ends(turned, [(low, high), (0, 1)], 0), ((high, 0), (low, 0)))
        # Rounding without growth: of a channel that goes up and down the first top and the first bottom.
        halves = [("lift", 1, (1, 0), 0, 2), ("lift", 1, (1, 0), 0, 2), ("lift", 1, (-1, 0), 0, 1)]
        self.assertEqual(ends(Chain(2, halves), [(low, high), (0, 0)], 1), ((low + 1, 0), (low, 0)))
        self.assertEqual(ends(Chain(2, halves), [(low + 1, high), (0, 0)], 1), ((low + 1, 0), (low + 2, 0)))
        self.assertEqual(ends(Chain(2, halves), [(5, 5), (0, 3)], 1), ((5, 0), (5, 3)))

    def test_one_vector(self):
        for channels, steps in bounded(2, 63):
            vector = (FAR, -7, 4 - FAR)[:channels]
            for channel in range(channels):
                found = ends(Chain(channels, steps), [(entry, entry) for entry in vector], channel)
                self.assertEqual(found, (vector, vector))
                self.assertEqual([part.__class__ for part in (found, *found)], [tuple] * 3)


class FirstOutsideTest(unittest.TestCase):

    def test_samples(self):
        source, answers = random.Random(6), set()
        for channels, steps in bounded(4, 71):
            chain = Chain(channels, steps)
            for box in small_boxes(source, channels):
                found = ranges(chain, box)
                values = sorted({end for row in found for pair in row for end in pair})
                for low, high in {(values[0], values[-1]), (values[0] + 1, values[-1]), (values[0], values[-1] - 1),
                                  (values[0], values[0]), (values[len(values) // 3], values[-1])}:
                    if low <= high:
                        answer = first_outside(chain, box, low, high)
                        self.assertEqual(answer, self.plain(found, low, high))
                        answers.add(answer)
            self.assertEqual(told(chain), (channels, steps))
        self.assertTrue({None, (0, 0), (0, 1), (0, 2), (1, 0), (1, 1), (2, 2), (5, 1)} <= answers)

    def plain(self, found, low, high):
        outside = [
            (row, channel) for row, pairs in enumerate(found) for channel, (least, greatest) in enumerate(pairs)
            if least < low or greatest > high
        ]
        return min(outside, default=None)

    def test_known(self):
        pair, box = Chain(2, PAIR), [(0, 255), (0, 255)]
        self.assertIsNone(first_outside(pair, box, -255, 255))
        self.assertEqual(first_outside(pair, box, -254, 255), (1, 0))
        self.assertEqual(first_outside(pair, box, -255, 254), (0, 0))
        self.assertEqual(first_outside(pair, [(0, 254), (0, 255)], -255, 254), (0, 1))
        self.assertEqual(first_outside(pair, box, 1, FAR), (0, 0))
        far = [(0, FAR), (5, 5)]
        self.assertIsNone(first_outside(pair, far, -5, FAR))
        self.assertEqual(first_outside(pair, far, -4, FAR), (1, 0))
        self.assertEqual(first_outside(pair, far, -5, FAR - 1), (0, 0))
        # Low and high may be equal.
        self.assertIsNone(first_outside(Chain(2, [("swap", 0, 1)]), [(7, 7), (7, 7)], 7, 7))
        self.assertEqual(first_outside(Chain(2, [("turn", 1)]), [(7, 7), (7, 7)], 7, 7), (1, 1))
        self.assertEqual(first_outside(Chain(2, []), [(7, 8), (7, 7)], 7, 7), (0, 0))
        self.assertIsNone(first_outside(Chain(3, []), [(-FAR, FAR)] * 3, -FAR, FAR))
        self.assertEqual(first_outside(Chain(3, [("turn", 2)]), [(0, 1), (0, 1), (0, FAR)], 0, FAR), (1, 2))
        # Only what a row is counts, not what it was before or will be.
        there = [("lift", 0, (0, 0), 300, 1), ("lift", 0, (0, 0), -300, 1)]
        self.assertEqual(first_outside(Chain(2, there), box, 0, 255), (1, 0))
        self.assertEqual(first_outside(Chain(2, [("swap", 0, 1)] + there), box, 0, 255), (2, 0))


class ErrorTest(unittest.TestCase):

    def calls(self, chain):
        return [
            lambda box: ranges(chain, box), lambda box: ends(chain, box, 0), lambda box: ends(chain, box, -1),
            lambda box: ends(chain, box, 7), lambda box: first_outside(chain, box, 0, 5),
            lambda box: first_outside(chain, box, 5, 0),
        ]

    def test_boxes(self):
        for channels in (2, 3):
            for steps in ([], [("turn", 0), ("lift", 1, (1, 0, 0)[:channels], 0, 3)]):
                chain = Chain(channels, steps)
                for box, value in bad_boxes(channels):
                    before = list(box)
                    for call in self.calls(chain):
                        check_error(self, InvalidBox, value, call, box)
                    self.assertEqual((box, told(chain)), (before, (channels, steps)))

    def test_channels(self):
        for channels in (2, 3):
            chain, box = Chain(channels, [("swap", 0, 1)]), [(0, 4)] * channels
            for channel in bad_channels(channels):
                check_error(self, InvalidChannel, channel, ends, chain, box, channel)
                check_error(self, InvalidChannel, channel, ends, channel=channel, box=box, chain=chain)
                self.assertEqual(ends(chain, box, 0), ((0,) * channels, (0, 4, 0)[:channels]))

    def test_high_below_low(self):
        for channels in (2, 3):
            chain, box = Chain(channels, [("turn", 0)]), [(0, 4)] * channels
            for low, high in ((0, -1), (5, 4), (FAR, -FAR), (1 - FAR, -FAR)):
                check_error(self, InvalidNumber, high, first_outside, chain, box, low, high)
                check_error(self, InvalidNumber, high, first_outside, high=high, low=low, box=box, chain=chain)
                self.assertEqual(first_outside(chain, box, 0, 4), (1, 0))


class CallTest(unittest.TestCase):

    def test_names(self):
        pair, box = Chain(2, PAIR), [(0, 3), (0, 3)]
        self.assertEqual(ranges(box=box, chain=pair), ranges(pair, box))
        self.assertEqual(ends(channel=1, box=box, chain=pair), ends(pair, box, 1))
        self.assertEqual(first_outside(high=3, low=0, box=box, chain=pair), (1, 0))
        self.assertEqual(ends(pair, box, channel=1), ((0, 0), (3, 3)))

    def test_returned_lists_may_change(self):
        for steps in (PAIR, [], [("swap", 0, 1)]):
            pair, box = Chain(2, steps), [(0, 3), (0, 3)]
            expected = plain_ranges(2, steps, lambda _: walk([(0, 3), (0, 3)]))
            found = ranges(pair, box)
            found[0][0] = (9, 9)
            found[-1].clear()
            found.pop(0)
            self.assertEqual((ranges(pair, box), box), (expected, [(0, 3), (0, 3)]))
            box[0] = (5, 6)
            self.assertEqual(ranges(pair, [(0, 3), (0, 3)]), expected)


if __name__ == "__main__":
    unittest.main()
