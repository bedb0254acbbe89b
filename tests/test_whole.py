"""What points 1 to 9 say together, over the whole program."""

import random
import unittest

from liftsteps.alike import are_alike, parting_vector
from liftsteps.chains import Chain
from liftsteps.distances import distances, loss
from liftsteps.maps import linear_part, periods, residue, table
from liftsteps.meetings import count_agreeing, count_kept
from liftsteps.ranges import ends, first_outside, ranges
from liftsteps.readings import read_chain, read_step, read_vector
from liftsteps.rounds import after_rounds, count_back, is_turning, round_of, whole_order
from liftsteps.sheets import Sheet
from liftsteps.simpler import fewest_steps, may_exchange, may_leave
from liftsteps.texts import show_chain, show_step, show_vector
from liftsteps.totals import count_at_most, nth_value, sum_of
from liftsteps.wrapped import cycle_length, cycles, is_harmless, wrapped_after, wrapped_order
from tests.plain import FAR, MOST, bounded, done, of_two, plain_grid, units, walk

TURNING = [
    [], [("swap", 0, 1)], [("turn", 0)], [("turn", 0), ("swap", 0, 1)],
    [("lift", 0, (0, -1), 0, 1), ("lift", 1, (1, 0), 0, 1)],
    [("lift", 1, (1, 0), 0, 2), ("lift", 1, (-1, 0), 0, 2)],
    [("lift", 1, (1, 0), 0, 2), ("lift", 1, (-1, 0), 0, 2), ("swap", 0, 1)],
    [("turn", 0), ("lift", 0, (0, 3), 1, 2), ("lift", 0, (0, 1), 0, 2)],
    [("lift", 1, (0, 0), 1, 1), ("lift", 0, (0, -1), -1, 2), ("turn", 0), ("lift", 0, (0, 1), 0, 2)],
]


def wider(steps):
    """The same steps with a third channel that nothing changes, and that changes nothing."""
    return [step[:2] + (step[2] + (0,),) + step[3:] if step[0] == "lift" else step for step in steps]


def answers(chain, box, vector):
    """What is told of what a chain does, however it is written."""
    found = [
        chain.at(vector), linear_part(chain), periods(chain), table(chain), residue(chain, vector),
        distances(chain), ranges(chain, box)[-1], is_turning(chain),
    ]
    for channel in range(chain.channels):
        found += [ends(chain, box, channel), loss(chain, channel, 3), sum_of(chain, box, channel)]
    if chain.channels == 2:
        found += [count_at_most(chain, box, 1, 5), nth_value(chain, box, 0, 7), count_kept(chain, box)]
        found += [count_agreeing(chain, Chain(2, [("turn", 1)]), box)]
    if is_turning(chain):
        found += [after_rounds(chain, vector, FAR), round_of(chain, vector), whole_order(chain), count_back(chain, box)]
    return found


def written_otherwise(source, channels, steps):
    """Other steps that do the same."""
    steps = list(steps)
    place = source.randrange(len(steps) + 1)
    way = source.randrange(4)
    if way == 0:
        steps[place:place] = [("turn", source.randrange(channels))] * 2
    elif way == 1:
        steps[place:place] = [("swap", 0, 1), ("turn", 1), ("swap", 0, 1), ("turn", 0)]
    elif way == 2:
        lift = ("lift", channels - 1, (2,) * (channels - 1) + (0,), source.randint(-5, 5), 1)
        steps[place:place] = [lift, Chain(channels, [lift]).inverse().steps[0]]
    else:
        # What a lift brings between two turns it takes back behind them.
        lift = ("lift", 0, (0,) + (3,) * (channels - 1), -4, 1)
        steps[place:place] = [("turn", 0), lift, ("turn", 0), lift]
    return steps


class WritingsTest(unittest.TestCase):

    def test_two_writings_tell_the_same(self):
        source = random.Random(271)
        for channels, steps in bounded(6, 271, 4) + [(2, steps) for steps in TURNING]:
            other = written_otherwise(source, channels, steps)
            self.assertIsNone(parting_vector(Chain(channels, steps), Chain(channels, other)))
            box, vector = [(-9, FAR), (3, 3), (-FAR, 8)][:channels], (FAR, -7, 5)[:channels]
            if channels == 2:
                box = [(-9, 10 ** 15), (-10 ** 15, 3)]
            first, second = [answers(Chain(channels, each), box, vector) for each in (steps, other)]
            self.assertEqual(first, second)


class ThirdChannelTest(unittest.TestCase):

    def setUp(self):
        self.found = [steps for steps in of_two(6, 272) if plain_grid(steps) <= MOST[3]] + TURNING

    def test_maps(self):
        for steps in self.found:
            pair, three = Chain(2, steps), Chain(3, wider(steps))
            for vector in ((0, 0), (-7, 3), (FAR, 1 - FAR)):
                self.assertEqual(three.path(vector + (-5,)), [row + (-5,) for row in pair.path(vector)])
                self.assertEqual(residue(three, vector + (FAR,)), residue(pair, vector) + (0,))
            part, wide = linear_part(pair), linear_part(three)
            rows = [row + [0] for row in part.rows] + [[0, 0, part.bottom]]
            self.assertEqual((wide.rows, wide.bottom, wide.determinant()), (rows, part.bottom, part.determinant()))
            self.assertEqual(periods(three), [period + (0,) for period in periods(pair)] + [(0, 0, 1)])
            self.assertEqual(table(three), [value + (0,) for value in table(pair)])
            self.assertEqual(distances(three), distances(pair) + [((0, 1), (0, 1))])
            self.assertEqual(loss(three, 1, 4), loss(pair, 1, 4) + [(0, 0)])
            self.assertEqual(loss(three, 2, 4), [(0, 0), (0, 0), (-3, 0)])
            self.assertEqual(three.inverse(), Chain(3, wider(pair.inverse().steps)))

    def test_boxes(self):
        box, more = [(-FAR, 5), (3, FAR)], (-2, 7)
        for steps in self.found:
            pair, three = Chain(2, steps), Chain(3, wider(steps))
            self.assertEqual(ranges(three, box + [more]), [row + [more] for row in ranges(pair, box)])
            for channel in (0, 1):
                self.assertEqual(ends(three, box + [more], channel), tuple(v + (-2,) for v in ends(pair, box, channel)))
                self.assertEqual(sum_of(three, box + [more], channel), 10 * sum_of(pair, box, channel))
            self.assertEqual(first_outside(three, box + [more], -FAR, FAR), first_outside(pair, box, -FAR, FAR))
            self.assertEqual(first_outside(three, [(0, 0), (0, 0), (0, FAR)], -FAR, FAR - 1), (0, 2))

    def test_other_chains(self):
        source = random.Random(273)
        for steps in self.found:
            others = source.choice(self.found)
            vector = parting_vector(Chain(2, steps), Chain(2, others))
            wide = parting_vector(Chain(3, wider(steps)), Chain(3, wider(others)))
            self.assertEqual(wide, None if vector is None else vector + (-max(map(abs, vector)),))
            pair, three = Chain(2, steps), Chain(3, wider(steps))
            self.assertEqual(fewest_steps(three), fewest_steps(pair))
            for number in range(len(steps)):
                self.assertIs(may_leave(three, number), may_leave(pair, number))
            for number in range(len(steps) - 1):
                self.assertIs(may_exchange(three, number), may_exchange(pair, number))

    def test_rounds(self):
        box = [(-FAR, 5), (-4, FAR)]
        for steps in self.found:
            pair, three = Chain(2, steps), Chain(3, wider(steps))
            self.assertIs(is_turning(three), is_turning(pair))
            if is_turning(pair):
                for vector in ((0, 0), (1, 0), (-3, FAR)):
                    length, drift = round_of(pair, vector)
                    self.assertEqual(round_of(three, vector + (9,)), (length, drift + (0,)))
                    self.assertEqual(after_rounds(three, vector + (9,), FAR), after_rounds(pair, vector, FAR) + (9,))
                self.assertEqual(whole_order(three), whole_order(pair))
                self.assertEqual(count_back(three, box + [(0, 6)]), 7 * count_back(pair, box))

    def test_channels_of_few_values(self):
        for steps in self.found:
            pair, three = Chain(2, steps), Chain(3, wider(steps))
            for width in (1, 2, 5, 6):
                expected = [(length, width * number) for length, number in cycles(pair, width)]
                self.assertEqual(cycles(three, width), expected)
                self.assertEqual(wrapped_order(three, width), wrapped_order(pair, width))
                vector = (width // 2, width - 1)
                self.assertEqual(cycle_length(three, width, vector + (0,)), cycle_length(pair, width, vector))
                found = wrapped_after(three, width, vector + (0,), FAR)
                self.assertEqual(found, wrapped_after(pair, width, vector, FAR) + (0,))
                box = [(0, width // 2), (0, width - 1)]
                self.assertIs(is_harmless(three, width, box + [(0, width - 1)]), is_harmless(pair, width, box))
                self.assertIs(is_harmless(three, width, box + [(0, width)]), False)


class SeenThroughAnotherTest(unittest.TestCase):

    def seen(self, other, chain):
        return other.inverse().followed_by(chain).followed_by(other)

    def test_rounds(self):
        turning = 0
        for steps in of_two(4, 281, 2):
            other = Chain(2, steps)
            for middle in TURNING:
                chain = Chain(2, middle)
                seen = self.seen(other, chain)
                if other.grid() <= 3 and seen.grid() <= 36 and is_turning(seen):
                    turning += 1
                    self.assertEqual(whole_order(seen), whole_order(chain))
                    for vector in ((2, -5), (FAR, 4)):
                        for times in (1, 7, FAR):
                            behind = other.at(after_rounds(chain, vector, times))
                            self.assertEqual(after_rounds(seen, other.at(vector), times), behind)
                        back = [(entry, entry) for entry in vector]
                        there = [(entry, entry) for entry in other.at(vector)]
                        self.assertEqual(count_back(seen, there), count_back(chain, back))
        self.assertGreater(turning, 60)

    def test_alike(self):
        source = random.Random(282)
        for channels, steps in bounded(4, 282, 2, 2):
            other = Chain(channels, steps)
            middle = [[("turn", 0)], [("swap", 0, 1)], [], [("lift", 0, (0,) * channels, 1, 1)]]
            first, second = source.choice(middle), source.choice(middle)
            pair = [self.seen(other, Chain(channels, each)) for each in (first, second)]
            self.assertIs(are_alike(*pair), first == second)
            both = self.seen(other, Chain(channels, first)).followed_by(self.seen(other, Chain(channels, second)))
            self.assertTrue(are_alike(both, self.seen(other, Chain(channels, first + second))))

    def test_behind_nothing_is_nothing(self):
        for channels, steps in bounded(3, 283, 2, 2):
            chain = self.seen(Chain(channels, steps), Chain(channels, []))
            none, box = Chain(channels, []), [(-9, FAR), (3, 44), (-FAR, 8)][:channels]
            if channels == 2:
                box = [(-10 ** 15, 9), (3, 44)]
            self.assertEqual(answers(chain, box, (5, -FAR, 7)[:channels]), answers(none, box, (5, -FAR, 7)[:channels]))
            self.assertEqual(fewest_steps(chain), [])


class WithoutRoundingTest(unittest.TestCase):

    def test_all_is_linear(self):
        for channels, steps in bounded(6, 284, most=1):
            chain, zero = Chain(channels, steps), (0,) * channels
            self.assertEqual((periods(chain), table(chain)), (units(channels), [chain.at(zero)]))
            self.assertEqual(residue(chain, (FAR, -3, 8)[:channels]), zero)
            self.assertEqual(distances(chain), [((entry, 1), (entry, 1)) for entry in chain.at(zero)])
            if channels == 2:
                box = [(-10 ** 15, 4), (-7, 10 ** 15)]
                # Of the median as many are below as above: the middle of a box is that of the values.
                size = (10 ** 15 + 5) * (10 ** 15 + 8)
                for channel in (0, 1):
                    values = [nth_value(chain, box, channel, number) for number in (9, size // 2, size - 10)]
                    self.assertEqual(values, sorted(values))
                    twice = 2 * sum_of(chain, box, channel)
                    self.assertEqual(values[0] + values[2], twice // size)


class SheetsTest(unittest.TestCase):

    def test_sheets_chains_and_texts(self):
        source = random.Random(285)
        for channels, steps in bounded(5, 285):
            chain = Chain(channels, steps)
            sheet = Sheet.of_text(show_chain(chain))
            self.assertTrue(sheet == Sheet(chain) and sheet.chain == chain)
            for number in range(len(steps), -1, -1):
                before = sheet.chain
                self.assertEqual(sheet.cut(number), parting_vector(before, Chain(channels, steps[:number])))
                self.assertEqual(read_chain(show_chain(sheet.chain)), sheet.chain)
            for number, step in enumerate(steps):
                again = read_step(channels, show_step(step))
                self.assertEqual(sheet.add(again), parting_vector(Chain(channels, steps[:number]), sheet.chain))
            self.assertEqual(sheet.chain, chain)
            vector = read_vector(show_vector(tuple(source.randint(-FAR, FAR) for _ in range(channels))))
            rows = list(sheet.walk(vector))
            self.assertEqual(rows, chain.path(vector))
            self.assertEqual([read_vector(show_vector(row)) for row in rows], rows)
            self.assertEqual(show_chain(Sheet.of_text(show_chain(sheet.chain)).chain), show_chain(chain))

    def test_a_step_that_may_be_left(self):
        for channels, steps in bounded(4, 286, 4):
            for number in range(len(steps)):
                sheet = Sheet(Chain(channels, steps))
                # A step that does nothing in its place, or none at all.
                vector = sheet.put(number, ("lift", 0, (0,) * channels, 0, 1))
                self.assertIs(vector is None, may_leave(Chain(channels, steps), number))


class FewValuesTest(unittest.TestCase):

    def test_harmless_boxes(self):
        harmless = 0
        for channels, steps in bounded(8, 287):
            chain, width = Chain(channels, steps), {2: 16, 3: 6}[channels]
            box = [(1, 3)] * channels
            answer = is_harmless(chain, width, box)
            self.assertIs(answer, first_outside(chain, box, 0, width - 1) is None)
            for vector in walk(box) if answer else []:
                self.assertEqual(wrapped_after(chain, width, vector, 1), done(steps, vector))
            harmless += answer
        self.assertGreater(harmless, 15)

    def test_a_turning_chain_that_stays_within(self):
        swap = Chain(3, [("swap", 0, 1), ("swap", 1, 2)])
        for vector in walk([(0, 5)] * 3)[::11]:
            self.assertEqual(cycle_length(swap, 6, vector), round_of(swap, vector)[0])
            self.assertEqual(wrapped_after(swap, 6, vector, FAR), after_rounds(swap, vector, FAR))
        self.assertEqual(wrapped_order(swap, 6), whole_order(swap))


if __name__ == "__main__":
    unittest.main()
