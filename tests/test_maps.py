"""Points 2, 4, 5 and 8 and the interface of liftsteps/maps.py."""

import unittest
from fractions import Fraction
from itertools import product

from liftsteps.chains import Chain
from liftsteps.maps import linear_part, periods, residue, table
from liftsteps.matrices import Matrix
from tests.plain import (
    FAR, PAIR, bounded, done, is_period, minus, plain_grid, plain_periods, plain_rows, plainly, plus, told, units, walk,
)

# Channels, steps, rows and bottom of the linear part, periods.
KNOWN = [
    (2, [], [[1, 0], [0, 1]], 1, [(1, 0), (0, 1)]),
    (3, [], [[1, 0, 0], [0, 1, 0], [0, 0, 1]], 1, [(1, 0, 0), (0, 1, 0), (0, 0, 1)]),
    (2, PAIR, [[2, -2], [1, 1]], 2, [(1, 1), (0, 2)]),
    (2, [("swap", 0, 1)], [[0, 1], [1, 0]], 1, [(1, 0), (0, 1)]),
    (2, [("turn", 0)], [[-1, 0], [0, 1]], 1, [(1, 0), (0, 1)]),
    (2, [("turn", 1)], [[1, 0], [0, -1]], 1, [(1, 0), (0, 1)]),
    (3, [("swap", 0, 2), ("turn", 0)], [[0, 0, -1], [0, 1, 0], [1, 0, 0]], 1, [(1, 0, 0), (0, 1, 0), (0, 0, 1)]),
    (3, [("swap", 0, 1), ("swap", 1, 2)], [[0, 1, 0], [0, 0, 1], [1, 0, 0]], 1, [(1, 0, 0), (0, 1, 0), (0, 0, 1)]),
    # Without rounding, also with numbers more.
    (2, [("lift", 1, (3, 0), 7, 1), ("lift", 0, (0, -2), -5, 1)], [[-5, -2], [3, 1]], 1, [(1, 0), (0, 1)]),
    # Weights that are all 0: nothing is rounded but the number more.
    (2, [("lift", 0, (0, 0), 17, 6)], [[1, 0], [0, 1]], 1, [(1, 0), (0, 1)]),
    (3, [("lift", 2, (0, 0, 0), -1, 6)], [[1, 0, 0], [0, 1, 0], [0, 0, 1]], 1, [(1, 0, 0), (0, 1, 0), (0, 0, 1)]),
    # One channel is rounded.
    (2, [("lift", 1, (1, 0), 0, 6)], [[6, 0], [1, 6]], 6, [(6, 0), (0, 1)]),
    (2, [("lift", 0, (0, 1), 3, 4)], [[4, 1], [0, 4]], 4, [(1, 0), (0, 4)]),
    (2, [("lift", 1, (2, 0), 0, 4)], [[2, 0], [1, 2]], 2, [(2, 0), (0, 1)]),
    (2, [("lift", 1, (6, 0), 1, 3)], [[1, 0], [2, 1]], 1, [(1, 0), (0, 1)]),
    (2, [("lift", 1, (1, 0), 0, 2), ("lift", 0, (0, 1), 0, 6)], [[13, 2], [6, 12]], 12, [(2, 5), (0, 6)]),
    # A step twice, and a lift in halves.
    (2, [("lift", 1, (1, 0), 0, 2)] * 2, [[1, 0], [1, 1]], 1, [(2, 0), (0, 1)]),
    (2, [("lift", 1, (1, 0), 0, 2), ("lift", 1, (1, 0), 1, 2)], [[1, 0], [1, 1]], 1, [(1, 0), (0, 1)]),
    # Several channels are rounded together.
    (3, [("lift", 2, (1, 1, 0), 0, 2)], [[2, 0, 0], [0, 2, 0], [1, 1, 2]], 2, [(1, 1, 0), (0, 2, 0), (0, 0, 1)]),
    (3, [("lift", 0, (0, 1, 2), 0, 5)], [[5, 1, 2], [0, 5, 0], [0, 0, 5]], 5, [(1, 0, 0), (0, 1, 2), (0, 0, 5)]),
    (3, [("lift", 1, (2, 0, 3), 0, 6)], [[6, 0, 0], [2, 6, 3], [0, 0, 6]], 6, [(3, 0, 0), (0, 1, 0), (0, 0, 2)]),
    (3, [("lift", 2, (1, 5, 0), 2, 6)], [[6, 0, 0], [0, 6, 0], [1, 5, 6]], 6, [(1, 1, 0), (0, 6, 0), (0, 0, 1)]),
]


def fractions(matrix):
    return [[Fraction(entry, matrix.bottom) for entry in row] for row in matrix.rows]


def identity(channels):
    return [[int(k == place) for k in range(channels)] for place in range(channels)]


def back_and_forth(each):
    """A chain of at most two steps with small divisors, and the steps back behind it."""
    return [(n, steps, steps + Chain(n, steps).inverse().steps) for n, steps in bounded(each, 21, 2, 2)]


class ExampleTest(unittest.TestCase):

    def test_document(self):
        pair = Chain(2, [("lift", 0, (0, -1), 0, 1), ("lift", 1, (1, 0), 0, 2)])
        found = [
            pair.path((5, 2)), pair.at((-1, 0)), pair.inverse().steps, pair.inverse().at((3, 3)),
            linear_part(pair).rows, periods(pair), table(pair), residue(pair, (7, 2)), periods(Chain(2, [])),
        ]
        self.assertEqual(found, [
            [(5, 2), (3, 2), (3, 3)], (-1, -1), [("lift", 1, (-1, 0), 1, 2), ("lift", 0, (0, 1), 0, 1)], (5, 2),
            [[2, -2], [1, 1]], [(1, 1), (0, 2)], [(0, 0), (-1, 0)], (0, 1), [(1, 0), (0, 1)],
        ])

    def test_known(self):
        for channels, steps, rows, bottom, basis in KNOWN:
            with self.subTest(steps=steps):
                chain = Chain(channels, steps)
                part = linear_part(chain)
                self.assertEqual((part.rows, part.bottom), (rows, bottom))
                self.assertEqual(periods(chain), basis)


class LinearPartTest(unittest.TestCase):

    def test_samples(self):
        for channels, steps in bounded(20):
            chain = Chain(channels, steps)
            part = linear_part(chain)
            self.assertIs(part.__class__, Matrix)
            self.assertEqual((len(part), fractions(part)), (channels, plain_rows(channels, steps)))
            self.assertIn(part.determinant(), ((1, 1), (-1, 1)))
            self.assertEqual(told(chain), (channels, steps))

    def test_numbers_more_do_not_count(self):
        for channels, steps in bounded(6):
            other = [step[:3] + (step[3] + 5,) + step[4:] if step[0] == "lift" else step for step in steps]
            self.assertEqual(linear_part(Chain(channels, steps)), linear_part(Chain(channels, other)))

    def test_no_rounding(self):
        for channels, steps in bounded(10, most=1):
            chain, zero = Chain(channels, steps), (0,) * channels
            part = linear_part(chain)
            self.assertEqual(part.bottom, 1)
            for vector in walk([(-2, 1)] * channels) + [(FAR, -FAR, 7)[:channels]]:
                image = [(entry, 1) for entry in minus(chain.at(vector), chain.at(zero))]
                self.assertEqual(part.image(vector), image)

    def test_of_a_chain_and_another_one_is_the_product(self):
        found = bounded(6, 8, 3, 3)
        for (channels, steps), (others, other_steps) in product(found[::2], found[1::2]):
            if channels == others:
                first, second = Chain(channels, steps), Chain(channels, other_steps)
                both = linear_part(first.followed_by(second))
                self.assertEqual(both, linear_part(second).after(linear_part(first)))
                self.assertEqual(fractions(both), plain_rows(channels, steps + other_steps))

    def test_of_the_inverse_is_the_inverse(self):
        for channels, steps in bounded(10):
            chain = Chain(channels, steps)
            self.assertEqual(linear_part(chain.inverse()), linear_part(chain).inverse())

    def test_a_chain_and_back_is_the_identity(self):
        for channels, _, steps in back_and_forth(20):
            self.assertEqual(linear_part(Chain(channels, steps)), Matrix(identity(channels), 1))


class PeriodsTest(unittest.TestCase):

    def check_form(self, channels, basis):
        self.assertIs(basis.__class__, list)
        self.assertEqual(len(basis), channels)
        for place, period in enumerate(basis):
            self.assertIs(period.__class__, tuple)
            self.assertEqual((len(period), period[:place]), (channels, (0,) * place))
            self.assertGreaterEqual(period[place], 1)
            for later in range(place + 1, channels):
                self.assertIn(period[later], range(basis[later][later]))

    def test_samples(self):
        for channels, steps in bounded(8):
            chain = Chain(channels, steps)
            basis = periods(chain)
            self.check_form(channels, basis)
            every = set(plain_periods(channels, steps))
            # Of a grid's vectors just those are periods that the basis makes.
            corner = (0,) * channels
            made = {cell for cell in walk([(0, plain_grid(steps) - 1)] * channels) if left(basis, cell) == corner}
            self.assertEqual(made, every)
            self.assertEqual(told(chain), (channels, steps))

    def test_each_period_moves_by_the_linear_part(self):
        for channels, steps in bounded(4):
            chain = Chain(channels, steps)
            for period in periods(chain):
                image = plainly(steps, period)
                for vector in walk([(-2, 1)] * channels) + [(FAR, 3 - FAR, -FAR)[:channels]]:
                    self.assertEqual(list(minus(chain.at(plus(vector, period)), chain.at(vector))), image)

    def test_multiples_of_the_grid_are_periods(self):
        for channels, steps in bounded(4):
            chain = Chain(channels, steps)
            for unit in units(channels):
                self.assertEqual(left(periods(chain), tuple(chain.grid() * k for k in unit)), (0,) * channels)

    def test_of_the_inverse_are_the_images(self):
        for channels, steps in bounded(8):
            chain = Chain(channels, steps)
            back = chain.inverse()
            for one, other in ((chain, back), (back, chain)):
                for period in periods(one):
                    image = [int(entry) for entry in plainly(one.steps, period)]
                    self.assertEqual(left(periods(other), image), (0,) * channels)

    def test_a_chain_and_back_has_all(self):
        for channels, _, steps in back_and_forth(10):
            self.assertEqual(periods(Chain(channels, steps)), units(channels))

    def test_least_entries(self):
        # A plain reckoning of a few by the words of point 5, with a wider walk.
        for channels, steps in bounded(2, 31, 3, 4):
            basis = periods(Chain(channels, steps))
            for vector in walk([(0, 3)] * channels):
                self.assertEqual(left(basis, vector) == (0,) * channels, is_period(channels, steps, vector))


def left(basis, vector):
    """What is left of a vector, made small by the periods of a basis from the first one on."""
    for place, period in enumerate(basis):
        times = vector[place] // period[place]
        vector = tuple(a - times * b for a, b in zip(vector, period))
    return tuple(vector)


def cells_of(basis):
    return walk([(0, period[place] - 1) for place, period in enumerate(basis)])


class TableTest(unittest.TestCase):

    def test_samples(self):
        for channels, steps in bounded(8):
            chain = Chain(channels, steps)
            cells = cells_of(periods(chain))
            self.assertEqual(table(chain), [done(steps, cell) for cell in cells])
            self.assertEqual([residue(chain, cell) for cell in cells[:9]], cells[:9])
            self.assertEqual(told(chain), (channels, steps))

    def test_known(self):
        sixth = Chain(2, [("lift", 1, (1, 0), 1, 6)])
        self.assertEqual(table(sixth), [(0, 0), (1, 0), (2, 0), (3, 0), (4, 0), (5, 1)])
        rows = Chain(3, [("lift", 0, (0, 2, 3), 0, 6)])
        self.assertEqual(table(rows), [(0, 0, 0), (0, 0, 1), (0, 1, 0), (0, 1, 1), (0, 2, 0), (1, 2, 1)])
        self.assertEqual(table(Chain(2, [])), [(0, 0)])
        self.assertEqual(table(Chain(3, [("lift", 1, (0, 0, 0), 7, 2), ("turn", 1)])), [(0, -3, 0)])
        self.assertEqual([entry.__class__ for entry in table(sixth)], [tuple] * 6)

    def test_linear_part_and_table_tell_everything(self):
        for channels, steps in bounded(3):
            chain = Chain(channels, steps)
            found = dict(zip(cells_of(periods(chain)), table(chain)))
            for vector in walk([(-3, 4)] * channels)[::7] + [(FAR, -FAR + 1, 5 - FAR)[:channels]]:
                rest = residue(chain, vector)
                growth = [Fraction(*entry) for entry in linear_part(chain).image(minus(vector, rest))]
                self.assertEqual(list(minus(done(steps, vector), found[rest])), growth)


class ResidueTest(unittest.TestCase):

    def test_samples(self):
        for channels, steps in bounded(5):
            chain = Chain(channels, steps)
            grid, cells, every = chain.grid(), cells_of(periods(chain)), set(plain_periods(channels, steps))
            near = walk([(-7, 8)] * channels)
            for vector in near[::len(near) // 15]:
                rest = residue(chain, vector)
                self.assertIs(rest.__class__, tuple)
                self.assertIn(rest, cells)
                # All multiples of the grid are periods, so a difference counts by its remainder.
                self.assertIn(tuple(entry % grid for entry in minus(vector, rest)), every)
            self.assertEqual(told(chain), (channels, steps))

    def test_of_a_vector_and_a_period_more(self):
        for channels, steps in bounded(3):
            chain = Chain(channels, steps)
            vector = (FAR - 5, -FAR, 3)[:channels]
            for period in periods(chain):
                for times in (1, -1, 10 ** 30):
                    moved = tuple(a + times * b for a, b in zip(vector, period))
                    self.assertEqual(residue(chain, moved), residue(chain, vector))

    def test_known(self):
        pair = Chain(2, PAIR)
        found = [residue(pair, vector) for vector in ((0, 0), (-1, 0), (1, 1), (1, -1), (-FAR, 1 - FAR), (FAR, -FAR))]
        self.assertEqual(found, [(0, 0), (0, 1), (0, 0), (0, 0), (0, 1), (0, 0)])
        sixth = Chain(2, [("lift", 1, (1, 0), 0, 6)])
        found = [residue(sixth, (k, 9)) for k in range(-7, 8)]
        self.assertEqual(found, [(k, 0) for k in (5, 0, 1, 2, 3, 4, 5, 0, 1, 2, 3, 4, 5, 0, 1)])
        self.assertEqual(residue(Chain(3, []), (FAR, -5, 1)), (0, 0, 0))
        mixed = Chain(3, [("lift", 2, (1, 5, 0), 2, 6)])
        self.assertEqual(residue(mixed, (4, 1, 9)), (0, 3, 0))
        self.assertEqual(residue(mixed, (-FAR, 0, FAR)), (0, FAR - FAR // 6 * 6, 0))


class CallTest(unittest.TestCase):

    def test_returned_lists_may_change(self):
        for steps in (PAIR, [], [("lift", 1, (1, 0), 1, 6)]):
            chain = Chain(2, steps)
            for call in (periods, table):
                before = list(call(chain))
                found = call(chain)
                found[0] = (9, 9)
                found.append((7, 7))
                self.assertEqual(call(chain), before)
                call(chain).clear()
                self.assertEqual(call(chain), before)
            part = linear_part(chain)
            rows = part.rows
            rows[0][0] += 1
            rows.pop()
            self.assertEqual(fractions(part), plain_rows(2, steps))
            self.assertEqual(linear_part(chain), part)
            self.assertEqual(told(chain), (2, steps))

    def test_names(self):
        chain = Chain(2, PAIR)
        self.assertEqual(linear_part(chain=chain), linear_part(chain))
        self.assertEqual(periods(chain=chain), [(1, 1), (0, 2)])
        self.assertEqual(table(chain=chain), [(0, 0), (-1, 0)])
        self.assertEqual(residue(vector=(7, 2), chain=chain), (0, 1))
        self.assertEqual(residue(chain, vector=(7, 2)), (0, 1))


if __name__ == "__main__":
    unittest.main()
