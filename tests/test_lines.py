"""Helpers that count without a walk, and classes of vectors: compared with a walk."""

import random
import unittest
from math import gcd

from liftsteps.cosets import cell_counts, cell_of, cells_of, multiples_at, spans_of, sure_periods, unit_basis
from liftsteps.lines import pairs_at_most, points_within, shared_divisor
from tests.plain import bounded, is_period, plain_grid, walk


class LinesTest(unittest.TestCase):

    def test_pairs_at_most(self):
        source = random.Random(201)
        for _ in range(1500):
            lengths = (source.randint(1, 9), source.randint(1, 9))
            slopes = (source.randint(-7, 7), source.randint(-7, 7))
            if slopes == (0, 0):
                continue
            limit = source.randint(-60, 60)
            sums = [slopes[0] * x + slopes[1] * y for x, y in walk([(0, many - 1) for many in lengths])]
            self.assertEqual(pairs_at_most(lengths, slopes, limit), sum(one <= limit for one in sums))

    def test_points_within(self):
        source = random.Random(202)
        for _ in range(500):
            box = [(low, low + source.randint(0, 9)) for low in (source.randint(-9, 9), source.randint(-9, 9))]
            start, direction = [tuple(source.randint(-9, 9) for _ in range(2)) for _ in range(2)]
            if any(direction):
                points = [tuple(a + k * b for a, b in zip(start, direction)) for k in range(-40, 41)]
                within = [all(low <= k <= high for k, (low, high) in zip(point, box)) for point in points]
                self.assertEqual(points_within(box, start, direction), sum(within))

    def test_shared_divisor(self):
        for first, second in walk([(-12, 12), (-12, 12)]):
            if (first, second) != (0, 0):
                common, times, others = shared_divisor(first, second)
                self.assertEqual((common, times * first + others * second), (gcd(first, second), common))


class CosetsTest(unittest.TestCase):

    def test_sure_periods_are_periods(self):
        for channels, steps in bounded(4, 203):
            basis = sure_periods(steps, unit_basis(channels))
            for vector in basis:
                self.assertTrue(is_period(channels, steps, vector))
            self.assertLessEqual(len(cells_of(basis)), plain_grid(steps))

    def bases(self, source):
        """Those of chains, and any others, also with entries that are not small."""
        for channels, steps in bounded(4, 204):
            yield channels, multiples_at(sure_periods(steps, unit_basis(channels)), 0, source.randint(1, 6))
            yield channels, [
                (0,) * k + (source.randint(1, 4),) + tuple(source.randint(-5, 5) for _ in range(k + 1, channels))
                for k in range(channels)
            ]

    def test_cells(self):
        source = random.Random(204)
        for channels, basis in self.bases(source):
            cells, spans = cells_of(basis), spans_of(basis)
            self.assertEqual([cell_of(basis, cell) for cell in cells], cells)
            for place, unit in enumerate(unit_basis(channels)):
                homes = [cell_of(basis, tuple(times * k for k in unit)) for times in range(1, spans[place] + 1)]
                self.assertEqual(homes.index((0,) * channels) + 1, spans[place])
            box = [(low, low + source.randint(0, 12)) for low in [source.randint(-9, 9) for _ in range(channels)]]
            counts = {}
            for vector in walk(box):
                home = cell_of(basis, vector)
                counts[home] = counts.get(home, 0) + 1
            self.assertEqual(cell_counts(basis, box), counts)


if __name__ == "__main__":
    unittest.main()
