"""Points 2, 3, 4, 6 and 8 and the interface of liftsteps/totals.py."""

import random
import unittest
from bisect import bisect_right

from liftsteps.chains import Chain
from liftsteps.errors import InvalidBox, InvalidChannel, InvalidNumber, NotTwo
from liftsteps.totals import count_at_most, nth_value, sum_of
from tests.plain import (
    FAR, PAIR, bad_boxes, bad_channels, bounded, check_error, done, halves_of, of_two, plain_grid, size_of,
    small_boxes, told, walk,
)

BIG = 10 ** 15
SIXTH = [("lift", 1, (1, 0), 0, 6)]


def classes(box, grid):
    """The first vectors of a box by remainders, and how many of each kind follow along each channel."""
    firsts = walk([(low, min(high, low + grid - 1)) for low, high in box])
    return [(v, [(high - entry) // grid + 1 for (_, high), entry in zip(box, v)]) for v in firsts]


def plain_sum(steps, box, channel):
    """By all classes of vectors by the product of divisors: in each the values grow evenly."""
    grid, total = plain_grid(steps), 0
    for first, lengths in classes(box, grid):
        value = done(steps, first)[channel]
        number = 1
        for many in lengths:
            number *= many
        for place, many in enumerate(lengths):
            moved = tuple(entry + grid * (k == place) for k, entry in enumerate(first))
            growth = done(steps, moved)[channel] - value
            total += growth * number * (many - 1) // 2
        total += value * number
    return total


def plain_thin(steps, box, channel, value):
    """The count over a box with few columns or few rows: along the other channel all classes are solved one by one."""
    long = 0 if box[0][1] - box[0][0] > box[1][1] - box[1][0] else 1
    grid, total = plain_grid(steps), 0
    low, high = box[long]
    for other in range(box[1 - long][0], box[1 - long][1] + 1):
        for entry in range(low, min(high, low + grid - 1) + 1):
            many = (high - entry) // grid + 1
            first, second = [
                done(steps, (k, other) if long == 0 else (other, k))[channel] for k in (entry, entry + grid)
            ]
            total += solved(first, second - first, many, value)
    return total


def solved(first, growth, many, value):
    """How many of so many numbers that grow evenly from a first one are at most a value."""
    if growth == 0:
        return many if first <= value else 0
    if growth > 0:
        return max(0, min(many, (value - first) // growth + 1))
    return many - solved(first, -growth, many, 2 * first - value - 1)


def far_boxes(source):
    """Boxes far away: wide ones, thin ones, ones of one row or of one vector."""
    edge = [(-BIG, BIG), (-BIG, -BIG + source.randrange(9)), (source.randrange(BIG), BIG), (7 - BIG, 3), (BIG, BIG)]
    return [[source.choice(edge), source.choice(edge)] for _ in range(4)]


class ExampleTest(unittest.TestCase):

    def test_document(self):
        pair = Chain(2, [("lift", 0, (0, -1), 0, 1), ("lift", 1, (1, 0), 0, 2)])
        small = [(0, 3), (0, 3)]
        found = [
            sum_of(pair, small, 1), count_at_most(pair, small, 1, 1), nth_value(pair, small, 1, 9),
            nth_value(pair, small, 1, 10),
        ]
        self.assertEqual(found, [20, 10, 1, 2])


class SumOfTest(unittest.TestCase):

    def test_small_boxes(self):
        source = random.Random(101)
        for channels, steps in bounded(6, 101):
            chain = Chain(channels, steps)
            for box in small_boxes(source, channels):
                before, rows = list(box), [done(steps, v) for v in walk(box)]
                found = [sum_of(chain, box, channel) for channel in range(channels)]
                self.assertEqual(found, [sum(row[channel] for row in rows) for channel in range(channels)])
                self.assertEqual((box, told(chain)), (before, (channels, steps)))

    def test_far_boxes(self):
        for channels, steps in bounded(3, 102):
            chain = Chain(channels, steps)
            for box in (
                [(-FAR, FAR)] * channels, [(3, FAR), (-FAR, 5), (FAR, FAR)][:channels],
                [(FAR - 9, FAR), (-1, FAR), (7 - FAR, -3)][:channels], [(-FAR, -FAR), (FAR, FAR), (0, 0)][:channels],
            ):
                for channel in range(channels):
                    self.assertEqual(sum_of(chain, box, channel), plain_sum(steps, box, channel))

    def test_of_the_parts_together(self):
        for channels, steps in bounded(3, 103):
            chain, box = Chain(channels, steps), [(-FAR, FAR - 3), (-7, 10 ** 20), (5, 90)][:channels]
            for place in range(channels):
                for cut in (box[place][0], box[place][0] + 7, box[place][1] - 1):
                    parts = [sum_of(chain, part, 1) for part in halves_of(box, place, cut)]
                    self.assertEqual(sum(parts), sum_of(chain, box, 1))

    def test_one_vector(self):
        for channels, steps in bounded(3, 104):
            vector = (FAR, 3 - FAR, -8)[:channels]
            box = [(entry, entry) for entry in vector]
            found = tuple(sum_of(Chain(channels, steps), box, channel) for channel in range(channels))
            self.assertEqual(found, done(steps, vector))

    def test_known(self):
        self.assertEqual(sum_of(Chain(2, []), [(1, 100), (4, 4)], 0), 5050)
        self.assertEqual(sum_of(Chain(2, []), [(1, 100), (4, 5)], 1), 900)
        self.assertEqual(sum_of(Chain(2, SIXTH), [(0, 11), (0, 0)], 1), 6)
        self.assertEqual(sum_of(Chain(2, SIXTH), [(-12, -1), (0, 0)], 1), -18)
        self.assertEqual(sum_of(Chain(3, []), [(0, 9), (0, 9), (-FAR, FAR)], 2), 0)

    def test_a_turn_and_a_swap_behind(self):
        for channels, steps in bounded(3, 105):
            box = [(-5, 10 ** 9), (3, 44), (-FAR, 8)][:channels]
            plain = [sum_of(Chain(channels, steps), box, channel) for channel in range(channels)]
            turned = Chain(channels, steps + [("turn", 1)])
            swapped = Chain(channels, steps + [("swap", 0, 1)])
            self.assertEqual([sum_of(turned, box, k) for k in range(channels)], [plain[0], -plain[1]] + plain[2:])
            self.assertEqual([sum_of(swapped, box, k) for k in range(channels)], [plain[1], plain[0]] + plain[2:])


class CountAtMostTest(unittest.TestCase):

    def test_small_boxes(self):
        source = random.Random(111)
        for steps in of_two(12, 111):
            chain = Chain(2, steps)
            for box in small_boxes(source, 2):
                before, rows = list(box), [done(steps, v) for v in walk(box)]
                for channel in range(2):
                    values = sorted(row[channel] for row in rows)
                    asked = {values[0] - 1, values[0], values[-1] - 1, values[-1], values[-1] + 1, -FAR, FAR}
                    for value in sorted(asked) + [source.choice(values), source.choice(values) + 1]:
                        self.assertEqual(count_at_most(chain, box, channel, value), bisect_right(values, value))
                self.assertEqual((box, told(chain)), (before, (2, steps)))

    def test_far_thin_boxes(self):
        source = random.Random(112)
        for steps in of_two(6, 112):
            chain = Chain(2, steps)
            for box in ([(-BIG, BIG), (-4, 5)], [(BIG - 6, BIG), (7 - BIG, BIG)], [(-BIG, -BIG), (-BIG, 12)]):
                for channel in range(2):
                    middle = done(steps, tuple(source.randint(low, high) for low, high in box))[channel]
                    for value in (middle, middle - 1, 0, -BIG, BIG, FAR, -FAR):
                        found = count_at_most(chain, box, channel, value)
                        self.assertEqual(found, plain_thin(steps, box, channel, value))

    def test_far_wide_boxes(self):
        # Without rounding, or with one rounding, the count is known.
        plain = Chain(2, [("lift", 0, (0, 1), 0, 1)])
        box = [(0, BIG), (0, BIG)]
        self.assertEqual(count_at_most(plain, box, 0, BIG), (BIG + 1) * (BIG + 2) // 2)
        self.assertEqual(count_at_most(plain, box, 0, BIG - 1), BIG * (BIG + 1) // 2)
        self.assertEqual(count_at_most(plain, box, 0, 2 * BIG - 1), (BIG + 1) ** 2 - 1)
        minus = Chain(2, [("lift", 0, (0, -1), 0, 1)])
        self.assertEqual(count_at_most(minus, box, 0, -1), BIG * (BIG + 1) // 2)
        half = Chain(2, [("lift", 0, (0, 1), 0, 2), ("turn", 0)])
        # x + y // 2 >= 10: of each y // 2 from 0 on two values of y.
        self.assertEqual(count_at_most(half, [(0, BIG), (0, BIG)], 0, -10), (BIG + 1) ** 2 - 2 * 55)
        self.assertEqual(count_at_most(Chain(2, []), [(-BIG, BIG), (-BIG, BIG)], 1, 7), (2 * BIG + 1) * (BIG + 8))

    def test_of_the_parts_together(self):
        source = random.Random(113)
        for steps in of_two(4, 113):
            chain = Chain(2, steps)
            for box in far_boxes(source):
                for place in range(2):
                    low, high = box[place]
                    if low < high:
                        for value in (source.randint(-BIG, BIG), 0, -3 * BIG):
                            parts = halves_of(box, place, source.choice((low, high - 1, source.randint(low, high - 1))))
                            counts = [count_at_most(chain, part, 0, value) for part in parts]
                            self.assertEqual(sum(counts), count_at_most(chain, box, 0, value))

    def test_a_turn_behind(self):
        # What is at most a value, and what is more, are all.
        source = random.Random(114)
        for steps in of_two(5, 114):
            chain, turned = Chain(2, steps), Chain(2, steps + [("turn", 0), ("turn", 1)])
            for box in far_boxes(source):
                for channel in range(2):
                    value = source.choice((0, 5, -BIG, source.randint(-BIG, BIG)))
                    rest = count_at_most(turned, box, channel, -value - 1)
                    self.assertEqual(count_at_most(chain, box, channel, value) + rest, size_of(box))

    def test_never_falls(self):
        for steps in of_two(2, 115):
            chain = Chain(2, steps)
            box = [(-BIG, BIG), (-3, 10 ** 9)]
            counts = [count_at_most(chain, box, 1, value) for value in [-FAR, *range(-BIG, BIG, BIG // 5), FAR]]
            self.assertEqual(counts, sorted(counts))
            self.assertEqual((counts[0], counts[-1]), (0, size_of(box)))


class NthValueTest(unittest.TestCase):

    def test_small_boxes(self):
        source = random.Random(121)
        for steps in of_two(10, 121):
            chain = Chain(2, steps)
            for box in small_boxes(source, 2):
                before, rows = list(box), [done(steps, v) for v in walk(box)]
                for channel in range(2):
                    values = sorted(row[channel] for row in rows)
                    numbers = {0, 1, len(values) // 2, len(values) - 2, len(values) - 1, source.randrange(len(values))}
                    for number in numbers.intersection(range(len(values))):
                        self.assertEqual(nth_value(chain, box, channel, number), values[number])
                self.assertEqual((box, told(chain)), (before, (2, steps)))

    def test_whole_lists(self):
        for steps in of_two(2, 122):
            chain, box = Chain(2, steps), [(-5, 3), (10, 14)]
            for channel in range(2):
                found = [nth_value(chain, box, channel, number) for number in range(45)]
                self.assertEqual(found, sorted(done(steps, v)[channel] for v in walk(box)))

    def test_far_boxes(self):
        source = random.Random(123)
        for steps in of_two(4, 123):
            chain = Chain(2, steps)
            for box in far_boxes(source):
                size = size_of(box)
                for channel in range(2):
                    for number in {0, size - 1, size // 2, source.randrange(size)}:
                        value = nth_value(chain, box, channel, number)
                        self.assertLessEqual(count_at_most(chain, box, channel, value - 1), number)
                        self.assertGreater(count_at_most(chain, box, channel, value), number)

    def test_known(self):
        self.assertEqual(nth_value(Chain(2, []), [(-BIG, BIG), (4, 4)], 0, BIG), 0)
        self.assertEqual(nth_value(Chain(2, []), [(-BIG, BIG), (4, 4)], 1, BIG), 4)
        box = [(0, BIG), (0, BIG)]
        both = Chain(2, [("lift", 0, (0, 1), 0, 1)])
        self.assertEqual([nth_value(both, box, 0, number) for number in (0, 1, 2, 3, 5, 6)], [0, 1, 1, 2, 2, 3])
        last = size_of(box) - 1
        self.assertEqual([nth_value(both, box, 0, last - k) for k in (0, 1, 2, 3)], [2 * BIG - k for k in (0, 1, 1, 2)])
        self.assertEqual(nth_value(Chain(2, SIXTH), [(-BIG, BIG), (0, 0)], 1, 0), -BIG // 6)


class ErrorTest(unittest.TestCase):

    def calls(self, chain):
        return [
            lambda box, channel: sum_of(chain, box, channel),
            lambda box, channel: count_at_most(chain, box, channel, 5),
            lambda box, channel: nth_value(chain, box, channel, 0),
            lambda box, channel: nth_value(chain, box, channel, -1),
        ]

    def test_not_two(self):
        chain, good = Chain(3, [("turn", 2)]), [(0, 1)] * 3
        boxes = [good, [(0, 1)] * 2, [], [(1, 0), (0, 1), (0, 1)]]
        # Whatever else is wrong, the channels of the chain are told.
        for box in boxes:
            for channel in (0, 2, 3, -1):
                for call in self.calls(chain)[1:]:
                    check_error(self, NotTwo, 3, call, box, channel)
                check_error(self, NotTwo, 3, nth_value, chain, box, channel, 10 ** 9)
        check_error(self, NotTwo, 3, count_at_most, value=1, channel=0, box=good, chain=chain)
        check_error(self, NotTwo, 3, nth_value, number=1, channel=0, box=good, chain=chain)
        self.assertEqual((sum_of(chain, good, 2), told(chain)), (-4, (3, [("turn", 2)])))

    def test_boxes(self):
        for channels in (2, 3):
            chain = Chain(channels, [("turn", 0), ("lift", 1, (1, 0, 0)[:channels], 0, 3)])
            for box, value in bad_boxes(channels):
                before = list(box)
                for channel in (0, 1, channels, -1):
                    for call in self.calls(chain)[:1 if channels == 3 else None]:
                        check_error(self, InvalidBox, value, call, box, channel)
                self.assertEqual(box, before)

    def test_channels(self):
        for channels in (2, 3):
            chain, box = Chain(channels, [("swap", 0, 1)]), [(0, 4)] * channels
            for channel in bad_channels(channels):
                for call in self.calls(chain)[:1 if channels == 3 else None]:
                    check_error(self, InvalidChannel, channel, call, box, channel)
                check_error(self, InvalidChannel, channel, sum_of, channel=channel, box=box, chain=chain)
                self.assertEqual(sum_of(chain, box, 0), 2 * 5 ** channels)

    def test_numbers(self):
        chain = Chain(2, PAIR)
        for box in ([(0, 4), (0, 3)], [(7, 7), (-2, -2)], [(-BIG, BIG), (-BIG, BIG)]):
            size = size_of(box)
            for number in (-1, -2, -size, size, size + 1, FAR, -FAR):
                for channel in (0, 1):
                    check_error(self, InvalidNumber, number, nth_value, chain, box, channel, number)
                    check_error(self, InvalidNumber, number, nth_value, number=number, channel=1, box=box, chain=chain)
            least, greatest = nth_value(chain, box, 1, 0), nth_value(chain, box, 1, size - 1)
            self.assertEqual(count_at_most(chain, box, 1, greatest), size)
            self.assertEqual(count_at_most(chain, box, 1, least - 1), 0)


class CallTest(unittest.TestCase):

    def test_names(self):
        pair, box = Chain(2, PAIR), [(0, 3), (0, 3)]
        self.assertEqual(sum_of(channel=1, box=box, chain=pair), 20)
        self.assertEqual(count_at_most(value=1, channel=1, box=box, chain=pair), 10)
        self.assertEqual(nth_value(number=9, channel=1, box=box, chain=pair), 1)
        self.assertEqual(nth_value(pair, box, 1, number=10), 2)
        self.assertEqual((box, told(pair)), ([(0, 3), (0, 3)], (2, PAIR)))

    def test_a_box_is_not_kept(self):
        pair, box = Chain(2, PAIR), [(0, 3), (0, 3)]
        self.assertEqual(sum_of(pair, box, 1), 20)
        box[1] = (0, 0)
        self.assertEqual(sum_of(pair, box, 1), sum(done(PAIR, v)[1] for v in walk(box)))


if __name__ == "__main__":
    unittest.main()
