"""Points 2, 3, 4, 6 and 8 and the interface of liftsteps/meetings.py."""

import random
import unittest
from math import lcm

from liftsteps.chains import Chain
from liftsteps.errors import InvalidBox, NotTwo, OtherChannels
from liftsteps.meetings import count_agreeing, count_kept
from liftsteps.simpler import rounded
from tests.plain import (
    FAR, PAIR, bad_boxes, bounded_steps, check_error, done, halves_of, of_two, plain_grid, plain_rows, random_step,
    size_of, small_boxes, told, undone, walk,
)

BIG = 10 ** 15
FAR_BOXES = [[(-BIG, BIG), (-4, 5)], [(BIG - 6, BIG), (7 - BIG, BIG)], [(-BIG, BIG), (-1, -1)], [(3, 4), (-BIG, 12)]]


def other_steps(source, steps):
    """Steps that often do much the same, or differ by a linear part of rank 0, 1 or 2."""
    others = list(steps)
    lifts = [number for number, step in enumerate(steps) if step[0] == "lift"]
    way = source.choice(["more", "more", "weight", "leave", "add", "any", "behind"])
    if way in ("more", "weight") and lifts:
        number = source.choice(lifts)
        word, channel, weights, more, divisor = steps[number]
        if way == "more":
            more += source.choice((-1, 1))
        else:
            weights = tuple(0 if k == channel else weight + 1 for k, weight in enumerate(weights))
        others[number] = (word, channel, weights, more, divisor)
    elif way == "leave" and steps:
        others.pop(source.randrange(len(steps)))
    elif way == "behind":
        others.append(source.choice([("swap", 0, 1), ("turn", 0), ("lift", 0, (0, 1), 2, 1), ("lift", 1, (3, 0), 1, 1)]))
    elif way == "any":
        others = bounded_steps(source, 2, source.randrange(5))
    else:
        others.insert(source.randrange(len(steps) + 1), random_step(source, 2, [1]))
    return others


def pairs(each, seed):
    source = random.Random(seed)
    return [(steps, other_steps(source, steps)) for steps in of_two(each, seed)]


def rank(steps, others):
    """The rank of the difference of both linear parts."""
    (a, b), (c, d) = [
        [one - other for one, other in zip(*rows)] for rows in zip(plain_rows(2, steps), plain_rows(2, others))
    ]
    return 2 if a * d != b * c else 1 if (a, b, c, d) != (0, 0, 0, 0) else 0


def plain_thin(steps, others, box):
    """The count over a box with few columns or few rows: along the other channel all classes are solved one by one."""
    long = 0 if box[0][1] - box[0][0] > box[1][1] - box[1][0] else 1
    grid, total = lcm(plain_grid(steps), plain_grid(others)), 0
    low, high = box[long]
    for other in range(box[1 - long][0], box[1 - long][1] + 1):
        for entry in range(low, min(high, low + grid - 1) + 1):
            gaps = []
            for k in (entry, entry + grid):
                vector = (k, other) if long == 0 else (other, k)
                gaps.append([a - b for a, b in zip(done(steps, vector), done(others, vector))])
            total += solved(gaps[0], [a - b for a, b in zip(gaps[1], gaps[0])], (high - entry) // grid + 1)
    return total


def solved(gap, growth, many):
    """For how many k from 0 to many - 1 a gap that grows evenly is zero."""
    if not any(growth):
        return 0 if any(gap) else many
    place = 0 if growth[0] else 1
    k = -gap[place] // growth[place]
    return int(0 <= k < many and all(a + k * b == 0 for a, b in zip(gap, growth)))


class ExampleTest(unittest.TestCase):

    def test_document(self):
        pair = Chain(2, [("lift", 0, (0, -1), 0, 1), ("lift", 1, (1, 0), 0, 2)])
        small, far = [(0, 3), (0, 3)], [(0, 10 ** 15 - 1), (0, 10 ** 15 - 1)]
        found = [
            count_agreeing(pair, rounded(pair, 1, "half up"), small), count_kept(pair, [(-10, 10), (-10, 10)]),
            count_agreeing(pair, rounded(pair, 1, "half up"), far),
        ]
        self.assertEqual(found, [8, 2, 500000000000000000000000000000])


class CountAgreeingTest(unittest.TestCase):

    def test_small_boxes(self):
        source, met = random.Random(131), {0: 0, 1: 0, 2: 0}
        for steps, others in pairs(20, 131):
            first, second = Chain(2, steps), Chain(2, others)
            for box in small_boxes(source, 2):
                before = list(box)
                expected = sum(done(steps, v) == done(others, v) for v in walk(box))
                self.assertEqual(count_agreeing(first, second, box), expected)
                self.assertEqual(count_agreeing(second, first, box), expected)
                self.assertEqual(box, before)
                met[rank(steps, others)] += 0 < expected < size_of(box)
            self.assertEqual((told(first), told(second)), ((2, steps), (2, others)))
        # Lines and classes have been met in part of a box.
        self.assertGreater(min(met[0], met[1]), 15)

    def test_single_points(self):
        # Behind one of two chains something is done that keeps few vectors only.
        met = 0
        for steps in of_two(6, 133):
            for behind in (
                [("turn", 0), ("turn", 1)], [("turn", 0), ("swap", 0, 1)],
                [("turn", 0), ("turn", 1), ("lift", 0, (0, 1), 3, 2)],
                [("lift", 0, (0, 3), -2, 2), ("swap", 0, 1), ("lift", 0, (0, 1), 1, 1)],
                [("turn", 1), ("swap", 0, 1), ("lift", 1, (5, 0), 1, 3)],
            ):
                others = steps + behind
                if plain_grid(others) <= 12:
                    center = undone(steps, (0, 0))
                    box = [(entry - 12, entry + 9) for entry in center]
                    expected = sum(done(steps, v) == done(others, v) for v in walk(box))
                    self.assertEqual(rank(steps, others), 2)
                    self.assertEqual(count_agreeing(Chain(2, steps), Chain(2, others), box), expected)
                    met += expected > 0
                    wide = [(-BIG, BIG), (-BIG, BIG)]
                    self.assertGreaterEqual(count_agreeing(Chain(2, others), Chain(2, steps), wide), expected)
        self.assertGreater(met, 40)

    def test_other_divisors(self):
        # The linear parts have other bottoms, of which none is a multiple of the other one.
        for divisor, other in ((2, 3), (3, 4), (4, 6), (6, 5), (5, 2)):
            for weights in ((1, 0), (5, 0), (-1, 0)):
                steps, others = [("lift", 1, weights, 0, divisor)], [("lift", 1, weights, 1, other), ("turn", 0)]
                for second in (others[:1], others):
                    for box in ([(-30, 30), (-3, 3)], [(2, 30), (-9, 0)]):
                        expected = sum(done(steps, v) == done(second, v) for v in walk(box))
                        self.assertEqual(count_agreeing(Chain(2, steps), Chain(2, second), box), expected)
                    box = [(-BIG, BIG), (-BIG, -BIG + 2)]
                    found = count_agreeing(Chain(2, steps), Chain(2, second), box)
                    self.assertEqual(found, plain_thin(steps, second, box))

    def test_far_thin_boxes(self):
        met = {0: 0, 1: 0, 2: 0}
        for steps, others in pairs(8, 132):
            first, second = Chain(2, steps), Chain(2, others)
            for box in FAR_BOXES:
                found = count_agreeing(first, second, box)
                self.assertEqual(found, plain_thin(steps, others, box))
                met[rank(steps, others)] += found > 0
        self.assertGreater(min(met[0], met[1]), 5)

    def test_far_wide_boxes(self):
        wide = [(-BIG, BIG), (-BIG, BIG)]
        none, swap = Chain(2, []), Chain(2, [("swap", 0, 1)])
        self.assertEqual(count_agreeing(none, none, wide), (2 * BIG + 1) ** 2)
        # On a line, of which all or every third vector counts.
        self.assertEqual(count_agreeing(none, swap, wide), 2 * BIG + 1)
        self.assertEqual(count_agreeing(none, swap, [(-BIG, 5), (-5, BIG)]), 11)
        third = Chain(2, [("lift", 0, (0, 0), 0, 1), ("lift", 1, (1, 0), 0, 3)])
        self.assertEqual(count_agreeing(third, none, wide), 3 * (2 * BIG + 1))
        steep = Chain(2, [("lift", 1, (1, 0), 0, 3), ("lift", 0, (0, 0), 1, 1), ("lift", 1, (-1, 0), 2, 3)])
        moved = Chain(2, [("lift", 0, (0, 0), 1, 1)])
        self.assertEqual(count_agreeing(steep, moved, [(0, BIG - 1), (0, 9)]), 10 * (BIG - BIG // 3))
        # 2 x = 3 y + 1 of all vectors with y from 0 on: y is odd.
        line = [("lift", 0, (0, 3), 1, 1), ("lift", 1, (2, 0), 0, 1)]
        other = [("lift", 0, (0, 3), 1, 1), ("lift", 1, (2, 0), 2, 1)]
        self.assertEqual(count_agreeing(Chain(2, line), Chain(2, other), wide), 0)
        self.assertEqual(count_agreeing(Chain(2, [("turn", 0)]), none, wide), 2 * BIG + 1)
        self.assertEqual(count_agreeing(Chain(2, [("turn", 0), ("turn", 1)]), none, wide), 1)
        self.assertEqual(count_agreeing(Chain(2, [("turn", 0), ("turn", 1)]), none, [(1, BIG), (-BIG, BIG)]), 0)

    def test_far_lines(self):
        # x + 2 y is kept by a shear along it, so that what is kept is on lines that are not along the channels.
        shear = [("lift", 0, (0, 2), 0, 1), ("lift", 1, (1, 0), 0, 1), ("lift", 0, (0, -2), 0, 1)]
        near = [(-40, 40), (-33, 21)]
        expected = [v for v in walk(near) if done(shear, v) == v]
        self.assertEqual(count_kept(Chain(2, shear), near), len(expected))
        self.assertTrue(expected)
        self.assertTrue(all(x + 2 * y == 0 for x, y in expected))
        self.assertEqual(count_kept(Chain(2, shear), [(-BIG, BIG), (-BIG, BIG)]), BIG + 1)
        self.assertEqual(count_kept(Chain(2, shear), [(1, BIG), (-BIG, -7)]), BIG // 2 - 6)

    def test_of_the_parts_together(self):
        source = random.Random(134)
        for steps, others in pairs(5, 134):
            first, second = Chain(2, steps), Chain(2, others)
            for box in FAR_BOXES + [[(-BIG, BIG), (-BIG, BIG)]]:
                for place in range(2):
                    low, high = box[place]
                    if low < high:
                        parts = halves_of(box, place, source.choice((low, high - 1, source.randint(low, high - 1))))
                        counts = [count_agreeing(first, second, part) for part in parts]
                        self.assertEqual(sum(counts), count_agreeing(first, second, box))

    def test_the_same_step_behind_both(self):
        for steps, others in pairs(5, 135):
            first, second = Chain(2, steps), Chain(2, others)
            for behind in (("swap", 0, 1), ("turn", 0), ("lift", 1, (-3, 0), 4, 1)):
                moved = [Chain(2, each + [behind]) for each in (steps, others)]
                for box in FAR_BOXES[:2]:
                    self.assertEqual(count_agreeing(*moved, box), count_agreeing(first, second, box))

    def test_with_itself_and_one_vector(self):
        for steps, others in pairs(5, 136):
            chain = Chain(2, steps)
            self.assertEqual(count_agreeing(chain, Chain(2, steps), [(-BIG, 3), (5, BIG)]), (BIG + 4) * (BIG - 4))
            for vector in ((0, 0), (-1, 2), (BIG, 1 - BIG)):
                found = count_agreeing(chain, Chain(2, others), [(entry, entry) for entry in vector])
                self.assertEqual(found, int(done(steps, vector) == done(others, vector)))


class CountKeptTest(unittest.TestCase):

    def test_small_boxes(self):
        source, partly = random.Random(141), 0
        for steps in of_two(12, 141) + [steps + steps[:1] for steps in of_two(6, 142, 2)]:
            chain = Chain(2, steps)
            for box in small_boxes(source, 2):
                before = list(box)
                expected = sum(done(steps, v) == v for v in walk(box))
                self.assertEqual(count_kept(chain, box), expected)
                self.assertEqual((box, told(chain)), (before, (2, steps)))
                partly += 0 < expected < size_of(box)
        self.assertGreater(partly, 20)

    def test_far_boxes(self):
        for steps in of_two(8, 143):
            for box in FAR_BOXES:
                self.assertEqual(count_kept(Chain(2, steps), box), plain_thin(steps, [], box))

    def test_chains_that_keep_all(self):
        for steps in of_two(4, 144, 2):
            chain = Chain(2, steps)
            both = chain.followed_by(chain.inverse())
            self.assertEqual(count_kept(both, [(-BIG, BIG), (0, BIG)]), (2 * BIG + 1) * (BIG + 1))

    def test_known(self):
        sixth = Chain(2, [("lift", 1, (1, 0), 0, 6)])
        self.assertEqual(count_kept(sixth, [(-BIG, BIG), (-BIG, BIG)]), 6 * (2 * BIG + 1))
        self.assertEqual(count_kept(sixth, [(3, BIG), (-BIG, BIG)]), 3 * (2 * BIG + 1))
        self.assertEqual(count_kept(sixth, [(6, BIG), (-BIG, BIG)]), 0)
        self.assertEqual(count_kept(Chain(2, []), [(4, 4), (5, 5)]), 1)


class ErrorTest(unittest.TestCase):

    def test_not_two(self):
        three, pair = Chain(3, [("turn", 2)]), Chain(2, PAIR)
        for box in ([(0, 1)] * 3, [(0, 1)] * 2, [], [(1, 0)] * 3):
            # Of the first chain, also if the other one has as many or other channels.
            for second in (three, pair, Chain(3, [])):
                check_error(self, NotTwo, 3, count_agreeing, three, second, box)
                check_error(self, NotTwo, 3, count_agreeing, box=box, second=second, first=three)
            check_error(self, NotTwo, 3, count_kept, three, box)
            check_error(self, NotTwo, 3, count_kept, box=box, chain=three)
            check_error(self, OtherChannels, 3, count_agreeing, pair, three, box)
            check_error(self, OtherChannels, 3, count_agreeing, box=box, second=three, first=pair)
        self.assertEqual((told(three), told(pair)), ((3, [("turn", 2)]), (2, PAIR)))

    def test_boxes(self):
        pair, other = Chain(2, PAIR), Chain(2, [("swap", 0, 1)])
        for box, value in bad_boxes(2):
            before = list(box)
            check_error(self, InvalidBox, value, count_agreeing, pair, other, box)
            check_error(self, InvalidBox, value, count_agreeing, pair, pair, box)
            check_error(self, InvalidBox, value, count_kept, pair, box)
            check_error(self, InvalidBox, value, count_kept, box=box, chain=other)
            self.assertEqual(box, before)
        self.assertEqual(count_kept(other, [(-FAR, FAR), (0, 9)]), 10)


class CallTest(unittest.TestCase):

    def test_names(self):
        pair, box = Chain(2, PAIR), [(0, 3), (0, 3)]
        self.assertEqual(count_agreeing(box=box, second=rounded(pair, 1, "half up"), first=pair), 8)
        self.assertEqual(count_agreeing(pair, rounded(pair, 1, "half up"), box=box), 8)
        self.assertEqual(count_kept(box=[(-10, 10), (-10, 10)], chain=pair), 2)
        self.assertEqual((box, told(pair)), ([(0, 3), (0, 3)], (2, PAIR)))

    def test_a_box_is_not_kept(self):
        pair, box = Chain(2, PAIR), [(-10, 10), (-10, 10)]
        self.assertEqual(count_kept(pair, box), 2)
        box[0] = (5, 6)
        self.assertEqual(count_kept(pair, box), 0)


if __name__ == "__main__":
    unittest.main()
