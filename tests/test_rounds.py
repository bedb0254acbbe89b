"""Points 2 to 9 and the interface of liftsteps/rounds.py."""

import random
import unittest
from itertools import product
from math import lcm

from liftsteps.chains import Chain
from liftsteps.errors import InvalidBox, InvalidNumber, NotTurning
from liftsteps.rounds import after_rounds, count_back, is_turning, round_of, whole_order
from tests.plain import (
    FAR, MOST, PAIR, bad_boxes, bounded, check_error, done, halves_of, minus, plain_grid, plain_rows, plus, size_of,
    told, units, walk,
)

ODD = [("lift", 1, (1, 0), 0, 2), ("lift", 1, (-1, 0), 0, 2)]
QUARTER = [("turn", 0), ("swap", 0, 1)]
SIXTH = [("lift", 0, (0, -1), 0, 1), ("lift", 1, (1, 0), 0, 1)]
# Steps and a vector that goes on evenly two times, and then otherwise.
PARTING = [
    ([("lift", 1, (0, 0), 1, 1), ("lift", 0, (0, -1), -1, 2), ("turn", 0), ("lift", 0, (0, 1), 0, 2)], (0, 0)),
    ([("lift", 0, (0, 0), -2, 2), ("lift", 1, (-1, 0), -1, 2), ("lift", 1, (-1, 0), -1, 2), ("turn", 1)], (0, 0)),
    ([("lift", 0, (0, -1), 3, 2), ("lift", 1, (0, 0), -1, 2), ("turn", 0), ("lift", 0, (0, 1), 3, 2)], (0, 1)),
    ([("turn", 1), ("lift", 1, (1, 0), 3, 2), ("lift", 0, (0, 0), 3, 1), ("lift", 1, (1, 0), 0, 2)], (0, 0)),
]
NOT_TURNING = {
    2: [PAIR, [("lift", 0, (0, 1), 0, 1)], [("lift", 0, (0, 1), 0, 2)], [("lift", 0, (0, 2), 0, 4), ("turn", 0)],
        [("lift", 0, (0, 1), 0, 1), ("lift", 1, (1, 0), 0, 1)]],
    3: [[("lift", 2, (0, -1, 0), 3, 1)], [("lift", 2, (1, 0, 0), 0, 3), ("swap", 0, 1)],
        [("swap", 0, 1), ("swap", 1, 2), ("lift", 0, (0, 3, 0), 0, 1)]],
}


def plain_order(channels, steps):
    """The least power of the linear part that is the identity, of twelve; none if an entry is no integer."""
    rows = plain_rows(channels, steps)
    same, power = [list(unit) for unit in units(channels)], rows
    if any(entry.denominator > 1 for row in rows for entry in row):
        return None
    for exponent in range(1, 13):
        if power == same:
            return exponent
        power = [[sum(a * b for a, b in zip(row, column)) for column in zip(*rows)] for row in power]
    return None


def plain_steps(source, channels, many):
    """Steps without rounding, with small weights, so that their linear part often turns."""
    steps = []
    for _ in range(many):
        channel = source.randrange(channels)
        weights = tuple(0 if k == channel else source.choice((-1, 0, 1)) for k in range(channels))
        steps.append(source.choice([
            ("lift", channel, weights, source.randint(-3, 3), 1), ("swap", *sorted(source.sample(range(channels), 2))),
            ("turn", channel),
        ]))
    return steps


def turning(each, seed):
    """Channels and steps of turning chains within the bounds: as many of each order, most of them with rounding."""
    source, found = random.Random(seed), {}
    keys = [(channels, order) for channels in (2, 3) for order in (1, 2, 3, 4, 6)]
    while any(len(found.get(key, [])) < each for key in keys):
        channels = source.choice((2, 3))
        steps = plain_steps(source, channels, source.randrange(5))
        channel, divisor = source.randrange(channels), source.choice((2, 2, 2, 3) if channels == 2 else (2,))
        weights = tuple(0 if k == channel else source.randint(-3, 3) for k in range(channels))
        # A lift, and somewhere behind it one with the weights turned round, or the same one again.
        places = sorted(source.choices(range(len(steps) + 1), k=2))
        first, last = source.choice((1, 1, -1)), source.randint(-3, 3)
        for place, sign, more in zip(places[::-1], (-1, first), (last, divisor - 1 - last + source.choice((0, 0, 1, -1)))):
            steps.insert(place, ("lift", channel, tuple(sign * weight for weight in weights), more, divisor))
        key = (channels, plain_order(channels, steps))
        rough = any(weight % divisor for weight in weights) or source.random() < 0.1
        if key in keys and rough and len(found.setdefault(key, [])) < each:
            found[key].append(steps)
    return [(key[0], steps) for key in keys for steps in found[key]]


def orbit(steps, vector, times):
    rows = [vector]
    for _ in range(times):
        rows.append(done(steps, rows[-1]))
    return rows


def whole_turn(channels, steps):
    """A number of rounds, a multiple of the order, in which the class of a vector surely has come back."""
    return plain_order(channels, steps) * plain_grid(steps) ** channels


def plain_round(channels, steps, vector):
    """By the definition, looked at through two whole turns."""
    many = whole_turn(channels, steps)
    rows = orbit(steps, vector, 2 * many)
    for length in range(1, many + 1):
        drift = minus(rows[length], vector)
        if all(row == tuple(a + j * b for a, b in zip(vector, drift)) for j, row in enumerate(rows[::length])):
            return (length, drift)
    return None


def plain_whole_order(channels, steps):
    """All classes of vectors by the product of divisors, and from each what is one product further, walked."""
    grid, total = plain_grid(steps), 1
    for cell in walk([(0, grid - 1)] * channels):
        for unit in [(0,) * channels] + units(channels):
            times = first_return(channels, steps, plus(cell, tuple(grid * entry for entry in unit)))
            if times is None:
                return None
            total = lcm(total, times)
    return total


def first_return(channels, steps, vector):
    """After how many rounds a vector is as at first, none if it is not through a whole turn."""
    row = vector
    for times in range(1, whole_turn(channels, steps) + 1):
        row = done(steps, row)
        if row == vector:
            return times
    return None


def comes_back(channels, steps, vector):
    return first_return(channels, steps, vector) is not None


def small(samples, most):
    """The chains of which a walk of all classes is short."""
    return [(channels, steps) for channels, steps in samples if plain_grid(steps) ** channels <= most]


class ExampleTest(unittest.TestCase):

    def test_document(self):
        pair = Chain(2, [("lift", 0, (0, -1), 0, 1), ("lift", 1, (1, 0), 0, 2)])
        odd = [("lift", 1, (1, 0), 0, 2), ("lift", 1, (-1, 0), 0, 2)]
        drift, mixed = Chain(2, odd), Chain(2, odd + [("swap", 0, 1)])
        quarter = Chain(2, [("turn", 0), ("swap", 0, 1)])
        found = [
            is_turning(pair), after_rounds(drift, (1, 0), 10 ** 30), round_of(drift, (2, 5)), round_of(mixed, (1, 0)),
            whole_order(quarter), whole_order(drift), count_back(drift, [(0, 9), (0, 9)]),
        ]
        self.assertEqual(found, [
            False, (1, -1000000000000000000000000000000), (1, (0, 0)), (6, (-2, -2)), 4, None, 50,
        ])


class IsTurningTest(unittest.TestCase):

    def test_samples(self):
        answers = []
        for channels, steps in bounded(12, 151) + bounded(8, 152, 3) + turning(3, 153):
            chain = Chain(channels, steps)
            answer = is_turning(chain)
            self.assertIs(answer, plain_order(channels, steps) is not None)
            self.assertEqual(told(chain), (channels, steps))
            answers.append(answer)
        self.assertGreater(min(answers.count(True), answers.count(False)), 40)

    def test_known(self):
        for channels in (2, 3):
            self.assertIs(is_turning(Chain(channels, [])), True)
            self.assertIs(is_turning(chain=Chain(channels, [("swap", 0, 1), ("turn", 1)])), True)
            # No integers; integers of which no power is the identity.
            for steps in NOT_TURNING[channels]:
                self.assertIs(is_turning(Chain(channels, steps)), False)
        for steps in (ODD, SIXTH, SIXTH * 2, QUARTER, [("lift", 0, (0, 0), 7, 2)], [("lift", 0, (0, 2), 0, 2)] + QUARTER):
            self.assertIs(is_turning(Chain(2, steps)), plain_order(2, steps) is not None)
        self.assertIs(is_turning(Chain(2, SIXTH)), True)
        # Half of an odd weight is no integer, though the square of it all would be the identity.
        self.assertIs(is_turning(Chain(2, [("lift", 0, (0, 1), 0, 2), ("turn", 0)])), False)
        self.assertIs(is_turning(Chain(2, [("lift", 0, (0, 4), 0, 2), ("turn", 0)])), True)


class AfterRoundsTest(unittest.TestCase):

    def test_samples(self):
        source = random.Random(161)
        for channels, steps in turning(12, 161):
            chain = Chain(channels, steps)
            for vector in (tuple(source.randint(-9, 9) for _ in range(channels)), (FAR, -FAR, 7 - FAR)[:channels]):
                rows = orbit(steps, vector, 40)
                for times in (0, 1, 2, 3, 12, 39, 40):
                    found = after_rounds(chain, vector, times)
                    self.assertEqual((found, found.__class__), (rows[times], tuple))
            self.assertEqual(told(chain), (channels, steps))

    def test_many_rounds(self):
        # Past several whole turns.
        for channels, steps in small(turning(4, 162), 20):
            vector = (3, -8, 5)[:channels]
            many = 3 * whole_turn(channels, steps) + 5
            self.assertEqual(after_rounds(Chain(channels, steps), vector, many), orbit(steps, vector, many)[-1])

    def test_so_many_and_more(self):
        for channels, steps in turning(5, 163):
            chain, back = Chain(channels, steps), Chain(channels, steps).inverse()
            vector = (-4, 10 ** 30, 1)[:channels]
            for first, second in ((FAR, 5), (FAR - 10 ** 20, 10 ** 20 + 7), (1, FAR), (0, 10 ** 15)):
                between = after_rounds(chain, vector, first)
                behind = after_rounds(chain, between, second)
                self.assertEqual(behind, after_rounds(chain, vector, first + second))
                self.assertEqual(after_rounds(back, behind, second), between)
                self.assertEqual(after_rounds(back, between, first), vector)

    def test_known(self):
        drift = Chain(2, ODD)
        self.assertEqual(after_rounds(drift, (FAR + 1, 5), FAR), (FAR + 1, 5 - FAR))
        self.assertEqual(after_rounds(drift, (FAR, 5), FAR), (FAR, 5))
        mixed = Chain(2, ODD + [("swap", 0, 1)])
        self.assertEqual(after_rounds(mixed, (1, 0), 6 * 10 ** 30), (1 - 2 * 10 ** 30, -2 * 10 ** 30))
        self.assertEqual(after_rounds(Chain(2, QUARTER), (3, 8), FAR + 1), done(QUARTER, (3, 8)))
        self.assertEqual(after_rounds(Chain(2, SIXTH), (3, 8), 6 * FAR + 3), (-3, -8))
        more = Chain(3, [("lift", 2, (0, 0, 0), -13, 2)])
        self.assertEqual(after_rounds(more, (1, 2, 3), FAR), (1, 2, 3 - 7 * FAR))
        for channels in (2, 3):
            self.assertEqual(after_rounds(Chain(channels, []), (5, FAR, 0)[:channels], FAR), (5, FAR, 0)[:channels])

    def test_wrong_times(self):
        for channels, steps in ((2, []), (2, ODD), (3, [("turn", 0)])):
            chain, vector = Chain(channels, steps), (1, 2, 3)[:channels]
            for times in (-1, -2, -FAR):
                check_error(self, InvalidNumber, times, after_rounds, chain, vector, times)
                check_error(self, InvalidNumber, times, after_rounds, times=times, vector=vector, chain=chain)
            self.assertEqual(after_rounds(chain, vector, 0), vector)


class RoundOfTest(unittest.TestCase):

    def test_samples(self):
        source, kinds = random.Random(171), []
        for channels, steps in turning(8, 171):
            chain = Chain(channels, steps)
            for _ in range(4):
                vector = tuple(source.randint(-9, 9) for _ in range(channels))
                found = round_of(chain, vector)
                self.assertEqual(found, plain_round(channels, steps, vector))
                self.assertEqual([part.__class__ for part in (found, *found)], [tuple, int, tuple])
                kinds.append((any(found[1]), found[0] > plain_order(channels, steps)))
            self.assertEqual(told(chain), (channels, steps))
        for kind in product((True, False), repeat=2):
            self.assertGreater(kinds.count(kind), 5, kind)

    def test_drifts_that_part(self):
        # A whole turn goes on evenly, but in the next one the rounds between have another drift.
        for steps, vector in PARTING:
            moved = done(steps, vector)
            drift = minus(moved, vector)
            self.assertEqual(minus(done(steps, moved), moved), drift)
            length, _ = plain_round(2, steps, vector)
            self.assertGreater(length, 1)
            self.assertEqual(round_of(Chain(2, steps), vector), plain_round(2, steps, vector))
            for many in range(12):
                self.assertEqual(after_rounds(Chain(2, steps), vector, many), orbit(steps, vector, many)[-1])

    def test_far_vectors(self):
        for channels, steps in turning(3, 174):
            chain, grid = Chain(channels, steps), plain_grid(steps)
            vector = (2, -5, 1)[:channels]
            # Whole products of divisors further all goes on alike, but turned with what is further.
            length, drift = round_of(chain, tuple(entry + grid * 10 ** 30 for entry in vector))
            behind = after_rounds(chain, tuple(entry + grid * 10 ** 30 for entry in vector), 5 * length)
            self.assertEqual(behind, tuple(e + grid * 10 ** 30 + 5 * w for e, w in zip(vector, drift)))

    def test_known(self):
        self.assertEqual(round_of(Chain(2, []), (4, -FAR)), (1, (0, 0)))
        self.assertEqual(round_of(Chain(2, ODD), (FAR + 1, FAR)), (1, (0, -1)))
        self.assertEqual(round_of(Chain(2, QUARTER), (0, 0)), (1, (0, 0)))
        self.assertEqual(round_of(Chain(2, QUARTER), (FAR, 1)), (4, (0, 0)))
        self.assertEqual(round_of(Chain(2, SIXTH), (FAR, 1)), (6, (0, 0)))
        self.assertEqual(round_of(Chain(2, [("swap", 0, 1)]), (6, 6)), (1, (0, 0)))
        self.assertEqual(round_of(Chain(2, [("swap", 0, 1)]), (6, 5)), (2, (0, 0)))
        # A drift that a round turns away: forth and back, or on in every second round.
        self.assertEqual(round_of(Chain(2, [("turn", 0), ("lift", 0, (0, 0), 5, 1)]), (1, 1)), (2, (0, 0)))
        along = [("swap", 0, 1), ("lift", 0, (0, 0), 1, 1)]
        self.assertEqual(round_of(Chain(2, along), (0, 0)), (2, (1, 1)))
        # On the axis of a mirror that glides, each round goes on alike.
        self.assertEqual(round_of(Chain(2, along + [("lift", 1, (0, 0), 1, 1)]), (7, 7)), (1, (1, 1)))
        self.assertEqual(round_of(Chain(2, along + [("lift", 1, (0, 0), 1, 1)]), (7, 8)), (2, (2, 2)))


class WholeOrderTest(unittest.TestCase):

    def test_samples(self):
        answers = []
        for channels, steps in turning(12, 181):
            chain = Chain(channels, steps)
            answer = whole_order(chain)
            self.assertEqual(answer, plain_whole_order(channels, steps))
            self.assertEqual(told(chain), (channels, steps))
            answers.append(answer)
        self.assertGreater(answers.count(None), 20)
        self.assertGreater(len(set(answers)), 6)

    def test_known(self):
        for channels in (2, 3):
            self.assertEqual(whole_order(Chain(channels, [])), 1)
            self.assertEqual(whole_order(Chain(channels, [("turn", 1)])), 2)
            self.assertIsNone(whole_order(Chain(channels, [("lift", 0, (0,) * channels, 1, 1)])))
        self.assertEqual(whole_order(Chain(2, SIXTH)), 6)
        self.assertEqual(whole_order(Chain(2, SIXTH * 2)), 3)
        self.assertEqual(whole_order(Chain(3, [("swap", 0, 1), ("swap", 1, 2)])), 3)
        # A lift that does nothing.
        self.assertEqual(whole_order(Chain(2, [("lift", 0, (0, 0), 5, 6)])), 1)

    def test_seen_through_another_chain(self):
        # What a chain does behind another one, and that one taken back, has the same order.
        for channels, steps in bounded(2, 182, 2, 2):
            other = Chain(channels, steps)
            for middle in (QUARTER, [("turn", 0)], [("swap", 0, 1)], [("lift", 1, (0,) * channels, 1, 1)], []):
                seen = other.followed_by(Chain(channels, middle)).followed_by(other.inverse())
                # Seen so, the linear part may have entries that are no integers.
                if is_turning(seen):
                    self.assertEqual(whole_order(seen), whole_order(Chain(channels, middle)))


class CountBackTest(unittest.TestCase):

    def test_small_boxes(self):
        source, partly = random.Random(191), 0
        for channels, steps in small(turning(40, 191)[:80], 20):
            chain = Chain(channels, steps)
            for most in (0, 3):
                box = [(low, low + source.randint(0, most)) for low in [source.randint(-9, 9) for _ in range(channels)]]
                before = list(box)
                expected = sum(comes_back(channels, steps, v) for v in walk(box))
                self.assertEqual(count_back(chain, box), expected)
                self.assertEqual((box, told(chain)), (before, (channels, steps)))
                partly += 0 < expected < size_of(box)
        self.assertGreater(partly, 6)

    def test_far_boxes(self):
        for channels, steps in small(turning(6, 192), 64):
            chain, grid = Chain(channels, steps), plain_grid(steps)
            back = [cell for cell in walk([(0, grid - 1)] * channels) if comes_back(channels, steps, cell)]
            for box in ([(-FAR, FAR)] * channels, [(5, FAR), (-3, 8), (-FAR, -FAR)][:channels]):
                expected = 0
                for cell in back:
                    number = 1
                    for (low, high), entry in zip(box, cell):
                        number *= (high - entry) // grid - (low - 1 - entry) // grid
                    expected += number
                self.assertEqual(count_back(chain, box), expected)

    def test_of_the_parts_together(self):
        for channels, steps in turning(3, 193):
            chain, box = Chain(channels, steps), [(-FAR, 7), (-5, 10 ** 20), (3, 44)][:channels]
            for place in range(channels):
                for cut in (box[place][0], box[place][0] + 9, box[place][1] - 1):
                    parts = [count_back(chain, part) for part in halves_of(box, place, cut)]
                    self.assertEqual(sum(parts), count_back(chain, box))

    def test_orders_and_rounds_tell_the_same(self):
        for channels, steps in turning(3, 194):
            chain = Chain(channels, steps)
            box = [(-FAR, FAR)] * channels
            self.assertEqual(count_back(chain, box) == size_of(box), whole_order(chain) is not None)
            for vector in ((0, 0, 0)[:channels], (3, -8, 4)[:channels]):
                one = [(entry, entry) for entry in vector]
                self.assertEqual(count_back(chain, one), int(not any(round_of(chain, vector)[1])))

    def test_known(self):
        self.assertEqual(count_back(Chain(2, ODD), [(-FAR, FAR), (-FAR, FAR)]), (FAR + 1) * (2 * FAR + 1))
        self.assertEqual(count_back(Chain(2, ODD), [(3, 3), (-FAR, FAR)]), 0)
        self.assertEqual(count_back(Chain(2, []), [(1, 5), (-FAR, FAR)]), 5 * (2 * FAR + 1))
        self.assertEqual(count_back(Chain(3, [("lift", 0, (0, 0, 0), 1, 1)]), [(-FAR, FAR)] * 3), 0)

    def test_boxes(self):
        for channels in (2, 3):
            chain = Chain(channels, [("turn", 0)])
            for box, value in bad_boxes(channels):
                before = list(box)
                check_error(self, InvalidBox, value, count_back, chain, box)
                check_error(self, InvalidBox, value, count_back, box=box, chain=chain)
                self.assertEqual(box, before)
            self.assertEqual(count_back(chain, [(0, 1)] * channels), 2 ** channels)


class NotTurningTest(unittest.TestCase):

    def test_all_functions(self):
        for channels, found in NOT_TURNING.items():
            for steps in found:
                chain, vector = Chain(channels, steps), (1, 2, 3)[:channels]
                # Also if something else is wrong, too.
                for times in (0, 5, -1, -FAR):
                    check_error(self, NotTurning, None, after_rounds, chain, vector, times)
                check_error(self, NotTurning, None, round_of, chain, vector)
                check_error(self, NotTurning, None, whole_order, chain)
                check_error(self, NotTurning, None, count_back, chain, [(0, 5)] * channels)
                for box, _ in bad_boxes(channels):
                    check_error(self, NotTurning, None, count_back, box=box, chain=chain)
                check_error(self, NotTurning, None, round_of, vector=vector, chain=chain)
                check_error(self, NotTurning, None, whole_order, chain=chain)
                self.assertEqual(told(chain), (channels, steps))


class CallTest(unittest.TestCase):

    def test_names(self):
        drift = Chain(2, ODD)
        self.assertEqual(after_rounds(times=7, vector=(1, 0), chain=drift), (1, -7))
        self.assertEqual(round_of(vector=(1, 0), chain=drift), (1, (0, -1)))
        self.assertIsNone(whole_order(chain=drift))
        box = [(0, 9), (0, 9)]
        self.assertEqual(count_back(box=box, chain=drift), 50)
        self.assertEqual((box, told(drift)), ([(0, 9), (0, 9)], (2, ODD)))


if __name__ == "__main__":
    unittest.main()
