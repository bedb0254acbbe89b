"""Many answers of liftsteps/maps.py and liftsteps/ranges.py in one start, as right as one by one (points 5 and 6)."""

import ast
import os
import random
import subprocess
import sys
import unittest

from liftsteps.chains import Chain
from liftsteps.maps import periods, residue, table
from liftsteps.ranges import ends, ranges
from tests.plain import FAR, done, minus, plain_grid, plain_periods, told, walk

ROOT = os.path.dirname(os.path.dirname(os.path.abspath(__file__)))
# Seconds of computing; more than ten times what it takes.
LIMIT = 2
CHAINS = [
    (3, [
        ("lift", 0, (0, 1, 1), 0, 6), ("lift", 1, (1, 0, 1), 0, 1), ("lift", 2, (1, 1, 0), 0, 1),
        ("lift", 0, (0, 5, 1), 0, 1), ("lift", 1, (1, 0, 1), 0, 1), ("lift", 2, (1, 1, 0), 0, 1),
    ]),
    (2, [
        ("lift", 0, (0, 1), 0, 3), ("lift", 1, (1, 0), 0, 4), ("lift", 0, (0, 5), 0, 1), ("lift", 1, (1, 0), 0, 1),
        ("lift", 0, (0, -1), 0, 1), ("lift", 1, (1, 0), 0, 1),
    ]),
    # All three channels count at the one rounding.
    (3, [
        ("lift", 2, (1, 0, 0), 0, 1), ("lift", 0, (0, 1, 1), 0, 6), ("lift", 1, (1, 0, 1), 2, 1),
        ("lift", 2, (1, 1, 0), 0, 1), ("lift", 0, (0, 5, 1), 0, 1), ("lift", 1, (1, 0, 1), -3, 1),
    ]),
    # Each step rounds, or turns what has been rounded.
    (3, [
        ("lift", 0, (0, 1, -5), 3, 3), ("swap", 0, 2), ("lift", 1, (5, 0, 1), 0, 2), ("turn", 1),
        ("lift", 2, (1, 1, 0), 0, 1), ("lift", 0, (0, 5, 1), 0, 1),
    ]),
]
# What is asked in a start of its own. It answers with the seconds of computing that both lists took, and those
# of forty walks of all vectors of a grid: what each answer would need at least if it were found by such a walk.
START = """
import time
from itertools import product
from liftsteps.chains import Chain
from liftsteps.maps import residue
from liftsteps.ranges import ranges
chain, vectors, boxes = Chain({channels}, {steps}), {vectors}, {boxes}
times = [time.process_time()]
residues = [residue(chain, vector) for vector in vectors]
times.append(time.process_time())
found = [ranges(chain, box) for box in boxes]
times.append(time.process_time())
for _ in range(40):
    for vector in product(range(chain.grid()), repeat={channels}):
        chain.at(vector)
times.append(time.process_time())
print([[later - time for time, later in zip(times, times[1:])], residues, found])
"""


def vectors_to_ask(source, channels):
    near = [tuple(source.randint(-30, 30) for _ in range(channels)) for _ in range(50)]
    far = [tuple(source.choice((-1, 1)) * source.randint(0, FAR) for _ in range(channels)) for _ in range(50)]
    return near + far


def boxes_to_ask(source, channels):
    """Small boxes, and far ones that are long in all channels or thin in some."""
    boxes = [[(0, 10)] * channels, [(-FAR, FAR)] * channels]
    while len(boxes) < 50:
        corner = [source.choice((source.randint(-20, 20), source.randint(-FAR, FAR))) for _ in range(channels)]
        boxes.append([(low, low + source.choice((0, 1, 2, 4, source.randint(0, FAR)))) for low in corner])
    return boxes


def edge_vectors(steps, box):
    """Vectors among which are all ends: as a channel grows evenly by the grid, its ends are near those of the box."""
    grid, edges = plain_grid(steps), []
    for low, high in box:
        near, last = range(low, min(high, low + grid - 1) + 1), range(max(low, high - grid + 1), high + 1)
        edges.append(sorted({*near, *last}))
    vectors = [()]
    for edge in edges:
        vectors = [vector + (entry,) for vector in vectors for entry in edge]
    return vectors


def plain_ranges(steps, box):
    rows = [edge_vectors(steps, box)]
    for step in steps:
        rows.append([done([step], vector) for vector in rows[-1]])
    return [[(min(column), max(column)) for column in zip(*row)] for row in rows]


class PlainResidues:
    """Residues by the definition: all periods with entries below the grid are walked once."""

    def __init__(self, channels, steps):
        self.grid, self.every = plain_grid(steps), set(plain_periods(channels, steps))
        firsts = []
        for place in range(channels):
            found = [period[place] for period in self.every if not any(period[:place]) and period[place] > 0]
            firsts.append(min(found, default=self.grid))
        self.cells = walk([(0, entry - 1) for entry in firsts])

    def of(self, vector):
        found = [v for v in self.cells if tuple(k % self.grid for k in minus(vector, v)) in self.every]
        assert len(found) == 1
        return found[0]


class ManyAnswersTest(unittest.TestCase):

    def test_one_start(self):
        source = random.Random(301)
        for channels, steps in CHAINS:
            vectors, boxes = vectors_to_ask(source, channels), boxes_to_ask(source, channels)
            text = START.format(channels=channels, steps=steps, vectors=vectors, boxes=boxes)
            run = subprocess.run(
                [sys.executable, "-c", text], cwd=ROOT, capture_output=True, text=True, timeout=60, check=True,
            )
            (first, second, walks), residues, found = ast.literal_eval(run.stdout)
            plain = PlainResidues(channels, steps)
            self.assertEqual(residues, [plain.of(vector) for vector in vectors])
            self.assertEqual(found, [plain_ranges(steps, box) for box in boxes])
            self.assertLess(first + second, LIMIT)
            # A walk for each residue, or for each row of each box, would take longer.
            self.assertLess(first, len(vectors) * walks / 40)
            self.assertLess(second, len(boxes) * (len(steps) + 1) * walks / 40)

    def test_periods_tables_and_ends(self):
        source = random.Random(302)
        for channels, steps in CHAINS:
            chain, plain = Chain(channels, steps), PlainResidues(channels, steps)
            basis = periods(chain)
            self.assertEqual(walk([(0, period[place] - 1) for place, period in enumerate(basis)]), plain.cells)
            for period in basis:
                self.assertEqual(plain.of(period), (0,) * channels)
            self.assertEqual(table(chain), [done(steps, cell) for cell in plain.cells])
            for box in boxes_to_ask(source, channels)[:20]:
                vectors = edge_vectors(steps, box)
                for channel in range(channels):
                    values = [done(steps, vector)[channel] for vector in vectors]
                    first, last = vectors[values.index(min(values))], vectors[values.index(max(values))]
                    self.assertEqual(ends(chain, box, channel), (first, last))

    def test_what_was_asked_before_does_not_count(self):
        for channels, steps in CHAINS:
            box, vector = [(-3, FAR)] * channels, (7, -5, 100)[:channels]
            fresh = [call(Chain(channels, steps)) for call in (periods, table)]
            fresh += [residue(Chain(channels, steps), vector), ranges(Chain(channels, steps), box)]
            chain = Chain(channels, steps)
            for _ in range(2):
                found = [periods(chain), table(chain), residue(chain, vector), ranges(chain, box)]
                self.assertEqual(found, fresh)
                # Neither does it what becomes of the lists that were returned.
                found[0].clear()
                found[1][0] = (9, 9)
                found[3][0].clear()
                found[3].pop()
            self.assertEqual((chain == Chain(channels, steps), told(chain)), (True, (channels, steps)))
            # Other chains that are asked between keep their own.
            other = Chain(channels, steps[1:])
            self.assertEqual(periods(other), periods(Chain(channels, steps[1:])))
            self.assertEqual(periods(chain), fresh[0])


if __name__ == "__main__":
    unittest.main()
