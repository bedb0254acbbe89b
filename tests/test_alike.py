"""Points 2, 3 and 8 and the interface of liftsteps/alike.py."""

import random
import unittest
from itertools import product

from liftsteps.alike import are_alike, parting_vector
from liftsteps.chains import Chain
from liftsteps.errors import OtherChannels
from liftsteps.simpler import rounded
from tests.plain import FAR, PAIR, bounded, bounded_steps, check_error, done, plain_parting, random_step, told


def changed_steps(source, channels, steps):
    """Return steps with a small change, within the bounds: often alike, or parted late."""
    steps = list(steps)
    place = source.randrange(len(steps) + 1)
    way = source.choice(["more", "more", "weight", "divisor", "turns", "there and back", "exchange", "other", "leave"])
    lifts = [number for number, step in enumerate(steps) if step[0] == "lift"]
    if way in ("more", "weight", "divisor") and lifts:
        number = source.choice(lifts)
        word, channel, weights, more, divisor = steps[number]
        if way == "more":
            more += source.choice((-2, -1, 1, 2))
        elif way == "weight":
            weights = tuple(0 if k == channel else weight + source.choice((0, 1)) for k, weight in enumerate(weights))
        else:
            divisor = source.randint(1, divisor)
        steps[number] = (word, channel, weights, more, divisor)
    elif way == "turns":
        steps[place:place] = [("turn", source.randrange(channels))] * 2
    elif way == "there and back":
        steps[place:place] = there_and_back(source, channels)
    elif way == "exchange" and len(steps) > 1:
        number = source.randrange(len(steps) - 1)
        steps[number:number + 2] = [steps[number + 1], steps[number]]
    elif way == "leave" and steps:
        steps.pop(source.randrange(len(steps)))
    else:
        steps.insert(place, random_step(source, channels, [1]))
    return steps


def there_and_back(source, channels):
    channel = source.randrange(channels)
    weights = tuple(0 if k == channel else source.randint(-6, 6) for k in range(channels))
    more = source.randint(-9, 9)
    return [
        ("lift", channel, weights, more, 1),
        ("lift", channel, tuple(-weight for weight in weights), -more, 1),
    ]


def pairs(each, seed=13):
    source = random.Random(seed)
    found = []
    for channels in (2, 3):
        for many in range(5):
            for _ in range(each):
                steps = bounded_steps(source, channels, many)
                found.append((channels, steps, changed_steps(source, channels, steps)))
    return found


# Channels, steps of both chains, and the vector that parts them.
KNOWN = [
    (2, [], [], None),
    (3, [], [], None),
    (2, PAIR, PAIR, None),
    (2, [], [("turn", 0)], (-1, -1)),
    (2, [("turn", 0)], [("turn", 1)], (-1, -1)),
    (2, [], [("swap", 0, 1)], (-1, 0)),
    (3, [], [("swap", 1, 2)], (-1, -1, 0)),
    (3, [("swap", 0, 2)], [("swap", 0, 1)], (-1, -1, 0)),
    (2, [("swap", 0, 1), ("turn", 0)], [("turn", 1), ("swap", 0, 1)], None),
    (2, [], [("lift", 0, (0, 0), 1, 1)], (0, 0)),
    (3, [], [("lift", 2, (0, 0, 0), -1, 6)], (0, 0, 0)),
    # A lift that does nothing, and one that does so to zero only.
    (2, [], [("lift", 0, (0, 0), 5, 6)], None),
    (3, [], [("lift", 1, (0, 0, 0), 0, 1)], None),
    (2, [], [("lift", 0, (0, 1), 0, 1)], (-1, -1)),
    # Of the vectors that are parted, the first entry is not the greatest one.
    (2, [("lift", 1, (1, 0), 0, 2), ("lift", 0, (0, 1), -2, 6)],
     [("lift", 1, (1, 0), 0, 2), ("lift", 0, (0, 1), -1, 6)], (0, 1)),
    (3, [("lift", 2, (3, 2, 0), -3, 6)], [("lift", 2, (3, 2, 0), -2, 6)], (0, 1, -1)),
    # Divisions in two goes.
    (2, [("lift", 1, (1, 0), 0, 2), ("lift", 1, (1, 0), 1, 2)], [("lift", 1, (1, 0), 0, 1)], None),
    (2, [("lift", 1, (2, 0), 1, 4)], [("lift", 1, (1, 0), 0, 2)], None),
    (2, [("lift", 1, (2, 0), 1, 4)], [("lift", 1, (1, 0), 1, 2)], (-1, -1)),
    (2, [("lift", 1, (2, 0), 1, 4)], [("lift", 1, (3, 0), 2, 6)], None),
    # At the greatest distance that the guarantee allows: only zero is parted, or what is furthest from it.
    (2, [("lift", 1, (1, 0), -1, 5)], [("lift", 1, (1, 0), -1, 6)], (-5, -5)),
    (2, [("lift", 1, (-1, 0), 9, 5)], [("lift", 1, (-1, 0), 11, 6)], (5, -5)),
    (2, [("lift", 0, (0, -1), 9, 5)], [("lift", 0, (0, -1), 11, 6)], (-5, 5)),
    (3, [("lift", 1, (-1, 0, 0), -6, 5)], [("lift", 1, (-1, 0, 0), -7, 6)], (5, -5, -5)),
    (3, [("lift", 0, (0, 0, -1), -6, 5)], [("lift", 0, (0, 0, -1), -7, 6)], (-5, -5, 5)),
    (2, [("lift", 1, (2, 0), -7, 5), ("lift", 1, (-1, 0), -4, 2)],
     [("lift", 1, (-3, 0), 0, 4), ("lift", 1, (2, 0), -10, 3)], (5, -5)),
    (2, [("lift", 1, (1, 0), 2, 6)], [("lift", 1, (1, 0), 3, 6)], (-3, -3)),
    (2, [("lift", 0, (0, 1), 2, 6)], [("lift", 0, (0, 1), 3, 6)], (-3, -3)),
    (3, [("lift", 0, (0, -5, 0), 8, 6)], [("lift", 0, (0, -5, 0), 9, 6)], (-3, -3, -3)),
    (3, [("lift", 0, (0, 0, 1), 1, 5)], [("lift", 0, (0, 0, 1), 2, 5)], (-2, -2, -2)),
    (3, [("lift", 0, (0, 0, 1), 2, 5)], [("lift", 0, (0, 0, 1), 3, 5)], (-2, -2, 2)),
    (2, [("lift", 1, (1, 0), 1, 4)], [("lift", 1, (1, 0), 2, 4)], (-2, -2)),
]


class ExampleTest(unittest.TestCase):

    def test_document(self):
        pair = Chain(2, [("lift", 0, (0, -1), 0, 1), ("lift", 1, (1, 0), 0, 2)])
        both = Chain(2, [("lift", 1, (1, 0), 0, 2), ("lift", 1, (1, 0), 1, 2)])
        self.assertEqual(parting_vector(pair, rounded(pair, 1, "half up")), (-1, 0))
        self.assertIs(are_alike(both, Chain(2, [("lift", 1, (1, 0), 0, 1)])), True)


class PartingVectorTest(unittest.TestCase):

    def check(self, channels, steps, others, vector):
        first, second = Chain(channels, steps), Chain(channels, others)
        for one, other in ((first, second), (second, first)):
            self.assertEqual(parting_vector(one, other), vector)
            self.assertIs(are_alike(one, other), vector is None)
        self.assertEqual((told(first), told(second)), ((channels, steps), (channels, others)))

    def test_known(self):
        for channels, steps, others, vector in KNOWN:
            with self.subTest(steps=steps, others=others):
                self.check(channels, steps, others, vector)
                self.assertEqual(plain_parting(channels, steps, others), vector)

    def test_small_changes(self):
        answers = []
        for channels, steps, others in pairs(30):
            with self.subTest(steps=steps, others=others):
                vector = plain_parting(channels, steps, others)
                self.check(channels, steps, others, vector)
                answers.append(None if vector is None else max(map(abs, vector)))
        # All kinds of answers have come.
        self.assertGreater(answers.count(None), 15)
        self.assertGreater(answers.count(0), 15)
        self.assertGreater(answers.count(1), 15)
        self.assertGreater(max(answer for answer in answers if answer is not None), 1)

    def test_any_two_chains(self):
        found = bounded(4, 17, 4, 6)
        for (channels, steps), (others, other_steps) in product(found[::2], found[1::2]):
            if channels == others:
                self.check(channels, steps, other_steps, plain_parting(channels, steps, other_steps))

    def test_one_more(self):
        # Each residue of a divisor parts once, also the one furthest from zero.
        for divisor in range(1, 7):
            for more in range(-3, 4):
                steps, others = [("lift", 1, (1, 0), more, divisor)], [("lift", 1, (1, 0), more + 1, divisor)]
                at = min((x for x in range(-3, 4) if (x + more + 1) % divisor == 0), key=lambda x: (abs(x), x))
                self.check(2, steps, others, (at, -abs(at)))

    def test_alike_means_also_far_away(self):
        for channels, steps, others in pairs(5, 19):
            first, second = Chain(channels, steps), Chain(channels, others)
            if are_alike(first, second):
                for vector in ((FAR, -FAR, FAR - 1), (1 - FAR, 7, FAR), (10 ** 200 + 5, -3, -10 ** 199)):
                    vector = vector[:channels]
                    self.assertEqual(first.at(vector), done(others, vector))
                    self.assertEqual(second.at(vector), done(steps, vector))

    def test_a_step_and_back(self):
        for channels, steps in bounded(10, 29, 3, 2):
            chain = Chain(channels, steps)
            both = steps + chain.inverse().steps
            self.check(channels, both, [], None)
            self.check(channels, chain.inverse().inverse().steps, steps, None)

    def test_kinds_and_names(self):
        pair, other = Chain(2, PAIR), Chain(2, PAIR[:1])
        found = parting_vector(second=other, first=pair)
        self.assertEqual((found, found.__class__), (parting_vector(pair, other), tuple))
        self.assertEqual([entry.__class__ for entry in found], [int, int])
        self.assertIs(are_alike(second=other, first=pair), False)
        self.assertIs(are_alike(pair, second=pair), True)
        self.assertIsNone(parting_vector(first=pair, second=pair))


class OtherChannelsTest(unittest.TestCase):

    def test_both_functions(self):
        for first, second in (
            (Chain(2, PAIR), Chain(3, [("turn", 2)])), (Chain(3, [("turn", 2)]), Chain(2, PAIR)),
            (Chain(2, []), Chain(3, [])), (Chain(3, []), Chain(2, [])),
        ):
            before = told(first), told(second)
            for call in (parting_vector, are_alike):
                check_error(self, OtherChannels, second.channels, call, first, second)
                check_error(self, OtherChannels, second.channels, call, second=second, first=first)
            self.assertEqual((told(first), told(second)), before)
            self.assertIsNone(parting_vector(first, first))


if __name__ == "__main__":
    unittest.main()
