"""Points 2, 3 and 4 and the interface of liftsteps/sheets.py."""

import random
import unittest

from liftsteps.chains import Chain
from liftsteps.errors import InvalidChain, InvalidNumber, NothingToUndo, Unreadable
from liftsteps.sheets import Sheet
from liftsteps.texts import show_chain
from tests.plain import FAR, MOST, PAIR, bounded, check_error, done, plain_grid, plain_parting, random_step, told

WRONG_STEPS = {
    2: [
        ("hop", 0), ("turn", 2), ("turn", -1), ("turn",), ("swap", 1, 0), ("swap", 0, 2), ("lift", 0, (0, 1), 0, 0),
        ("lift", 0, (1, 0), 0, 1), ("lift", 0, (0, 1, 1), 0, 1), ("lift", 0, (0, 1), 0), (),
    ],
    3: [
        ("hop", 0), ("turn", 3), ("turn", -1), ("turn",), ("swap", 2, 0), ("swap", 0, 3), ("lift", 0, (0, 1, 0), 0, 0),
        ("lift", 0, (1, 0, 0), 0, 1), ("lift", 0, (0, 1), 0, 1), (),
    ],
}


def rows_of(steps, vector):
    return [done(steps[:many], vector) for many in range(len(steps) + 1)]


def fitting_step(source, channels, steps):
    """A step that keeps a chain within the bounds."""
    left = MOST[channels] // plain_grid(steps)
    return random_step(source, channels, [divisor for divisor in range(1, 7) if divisor <= left])


class ExampleTest(unittest.TestCase):

    def test_document(self):
        sheet = Sheet.of_text("2; lift 0 0 -1 0 1")
        found = [
            sheet.add(("lift", 1, (1, 0), 0, 2)), sheet.put(1, ("lift", 1, (1, 0), 1, 2)), sheet.undo(),
            list(sheet.walk((5, 2))), sheet.cut(2), sheet.cut(0),
        ]
        self.assertEqual(found, [(-1, 0), (-1, 0), None, [(5, 2), (3, 2), (3, 3)], None, (-1, -1)])


class CallByCallTest(unittest.TestCase):

    def change(self, source, sheet, channels, steps):
        """Ask for one change; return the steps behind it and what the sheet has answered."""
        way = source.choice(["add", "add", "put", "put", "cut"])
        if way == "add" and len(steps) < 6:
            step = fitting_step(source, channels, steps)
            return steps + [step], sheet.add(step)
        if way == "put" and steps:
            number = source.choice([0, len(steps) - 1, source.randrange(len(steps))])
            others = steps[:number] + steps[number + 1:]
            step = fitting_step(source, channels, others)
            if source.random() < 0.3:
                step = steps[number]
            return steps[:number] + [step] + steps[number + 1:], sheet.put(number, step)
        number = source.choice([len(steps), max(0, len(steps) - 1), source.randint(0, len(steps))])
        return steps[:number], sheet.cut(number)

    def wrong(self, source, sheet, channels, steps):
        """Ask for something that raises an error."""
        many = len(steps)
        step = source.choice(WRONG_STEPS[channels])
        number = source.choice([-1, -many - 1, many, many + 1, FAR, -FAR])
        check_error(self, InvalidChain, many, sheet.add, step)
        check_error(self, InvalidNumber, number, sheet.put, number, ("turn", 0))
        check_error(self, InvalidNumber, number, sheet.put, number, step)
        number = source.choice([-1, -many - 1, many + 1, many + 2, FAR, -FAR])
        check_error(self, InvalidNumber, number, sheet.cut, number)
        if many:
            number = source.randrange(many)
            check_error(self, InvalidChain, number, sheet.put, number, step)

    def test_against_a_list(self):
        source, answers = random.Random(261), []
        for channels, first in bounded(3, 261, most=4):
            sheet, steps, earlier = Sheet(Chain(channels, first)), list(first), []
            for _ in range(9):
                if source.random() < 0.4:
                    self.wrong(source, sheet, channels, steps)
                if source.random() < 0.3:
                    if earlier:
                        self.assertIsNone(sheet.undo())
                        steps = earlier.pop()
                    else:
                        check_error(self, NothingToUndo, 0, sheet.undo)
                else:
                    before = steps
                    steps, answer = self.change(source, sheet, channels, before)
                    earlier.append(before)
                    self.assertEqual(answer, plain_parting(channels, before, steps))
                    answers.append(answer)
                self.assertEqual(told(sheet.chain), (channels, steps))
                vector = (7, -2, FAR)[:channels]
                self.assertEqual(list(sheet.walk(vector)), rows_of(steps, vector))
            while earlier:
                self.assertIsNone(sheet.undo())
                self.assertEqual(told(sheet.chain), (channels, earlier.pop()))
            check_error(self, NothingToUndo, 0, sheet.undo)
            self.assertEqual(told(sheet.chain), (channels, first))
        self.assertGreater(answers.count(None), 40)
        self.assertGreater(len(set(answers)), 6)


class ChainTest(unittest.TestCase):

    def test_chain(self):
        for channels, steps in bounded(3, 262):
            chain = Chain(channels, steps)
            for sheet in (Sheet(chain), Sheet(chain=chain), Sheet.of_text(show_chain(chain))):
                self.assertIs(sheet.chain.__class__, Chain)
                self.assertEqual((sheet.chain, told(sheet.chain)), (chain, (channels, steps)))

    def test_a_sheet_does_not_change_its_chain(self):
        chain = Chain(2, PAIR)
        sheet = Sheet(chain)
        before = sheet.chain
        sheet.add(("turn", 0))
        sheet.cut(1)
        self.assertEqual((told(chain), told(before), told(sheet.chain)), ((2, PAIR), (2, PAIR), (2, PAIR[:1])))
        sheet.chain.steps.clear()
        self.assertEqual(sheet.chain.steps, PAIR[:1])

    def test_equal(self):
        pair = Chain(2, PAIR)
        sheet, other = Sheet(pair), Sheet(Chain(2, list(PAIR)))
        self.assertIs(sheet == other, True)
        self.assertIs(sheet != other, False)
        other.add(("turn", 0))
        self.assertIs(sheet == other, False)
        self.assertIs(sheet != other, True)
        # What has been before does not count.
        other.cut(2)
        self.assertIs(sheet == other, True)
        sheet.cut(0)
        self.assertIs(sheet == Sheet(Chain(2, [])), True)
        self.assertIs(sheet == Sheet(Chain(3, [])), False)
        # Chains that do the same may be unequal.
        self.assertIs(Sheet(Chain(2, [("turn", 0)] * 2)) == Sheet(Chain(2, [])), False)
        for thing in (pair, PAIR, "2", None, 2, (2, PAIR), {}, object(), show_chain(pair)):
            self.assertIs(Sheet(pair) == thing, False)
            self.assertIs(thing == Sheet(pair), False)
            self.assertIs(Sheet(pair) != thing, True)


class WalkTest(unittest.TestCase):

    def test_rows(self):
        for channels, steps in bounded(3, 263):
            for vector in ((0, 0, 0), (5, -7, 2), (FAR, -FAR, 1 - FAR)):
                found = Sheet(Chain(channels, steps)).walk(vector[:channels])
                self.assertEqual(list(found), rows_of(steps, vector[:channels]))

    def test_one_by_one(self):
        sheet = Sheet(Chain(2, PAIR))
        walk = sheet.walk(vector=(5, 2))
        self.assertIs(iter(walk), walk)
        self.assertEqual([next(walk), next(walk), next(walk), next(walk, None)], [(5, 2), (3, 2), (3, 3), None])
        self.assertEqual(list(walk), [])

    def test_two_at_the_same_time(self):
        sheet, other = Sheet(Chain(2, PAIR)), Sheet(Chain(2, PAIR))
        first, second, third = sheet.walk((5, 2)), sheet.walk((-1, 0)), other.walk((5, 2))
        found = [(next(first), next(second), next(third)) for _ in range(3)]
        expected = list(zip(rows_of(PAIR, (5, 2)), rows_of(PAIR, (-1, 0)), rows_of(PAIR, (5, 2))))
        self.assertEqual(found, expected)
        again = sheet.walk((5, 2))
        next(again)
        self.assertEqual(list(sheet.walk((5, 2))), rows_of(PAIR, (5, 2)))
        self.assertEqual(list(again), rows_of(PAIR, (5, 2))[1:])

    def test_without_steps(self):
        self.assertEqual(list(Sheet(Chain(3, [])).walk((1, 2, 3))), [(1, 2, 3)])


class EdgeTest(unittest.TestCase):

    def test_without_steps(self):
        sheet = Sheet(Chain(2, []))
        self.assertIsNone(sheet.cut(0))
        self.assertIsNone(sheet.undo())
        check_error(self, NothingToUndo, 0, sheet.undo)
        check_error(self, InvalidNumber, 0, sheet.put, 0, ("turn", 0))
        check_error(self, InvalidNumber, 1, sheet.cut, 1)
        self.assertEqual(sheet.add(("swap", 0, 1)), (-1, 0))
        self.assertEqual(told(sheet.chain), (2, [("swap", 0, 1)]))

    def test_cut_of_all_and_of_none(self):
        sheet = Sheet(Chain(2, PAIR))
        self.assertIsNone(sheet.cut(2))
        self.assertEqual(sheet.cut(0), (-1, -1))
        self.assertEqual(told(sheet.chain), (2, []))
        # Also a cut that left all steps is taken back.
        self.assertIsNone(sheet.undo())
        self.assertEqual(told(sheet.chain), (2, PAIR))
        self.assertIsNone(sheet.undo())
        self.assertEqual(told(sheet.chain), (2, PAIR))
        check_error(self, NothingToUndo, 0, sheet.undo)

    def test_put_at_the_last_step(self):
        sheet = Sheet(Chain(2, PAIR))
        self.assertEqual(sheet.put(1, ("lift", 1, (1, 0), 1, 2)), (-1, 0))
        self.assertEqual(sheet.put(number=0, step=("turn", 0)), (-1, -1))
        self.assertEqual(sheet.chain.steps, [("turn", 0), ("lift", 1, (1, 0), 1, 2)])
        check_error(self, InvalidNumber, 2, sheet.put, 2, ("turn", 0))
        check_error(self, InvalidNumber, -1, sheet.put, -1, ("turn", 0))

    def test_a_step_that_does_nothing(self):
        sheet = Sheet(Chain(3, [("turn", 2)]))
        self.assertIsNone(sheet.add(("lift", 0, (0, 0, 0), 3, 4)))
        self.assertIsNone(sheet.put(1, ("lift", 1, (0, 0, 0), 0, 1)))
        self.assertIsNone(sheet.cut(1))
        sheet.undo()
        sheet.undo()
        self.assertEqual(sheet.chain.steps, [("turn", 2), ("lift", 0, (0, 0, 0), 3, 4)])

    def test_undo_to_nothing_and_on(self):
        sheet = Sheet(Chain(2, []))
        for number in range(6):
            sheet.add(("turn", number % 2))
        for number in range(5, -1, -1):
            self.assertIsNone(sheet.undo())
            self.assertEqual(len(sheet.chain), number)
        check_error(self, NothingToUndo, 0, sheet.undo)
        # After an undo, and after one that raised an error, it goes on.
        sheet.add(("turn", 1))
        sheet.undo()
        self.assertEqual(sheet.chain.steps, [])
        check_error(self, NothingToUndo, 0, sheet.undo)

    def test_errors_cannot_be_taken_back(self):
        sheet = Sheet(Chain(2, PAIR))
        sheet.add(("turn", 1))
        for step in WRONG_STEPS[2]:
            check_error(self, InvalidChain, 3, sheet.add, step)
            check_error(self, InvalidChain, 1, sheet.put, 1, step)
            # With two things wrong the number comes first.
            check_error(self, InvalidNumber, 3, sheet.put, 3, step)
            check_error(self, InvalidNumber, -1, sheet.put, step=step, number=-1)
            check_error(self, InvalidChain, 3, sheet.add, step=step)
        for number in (-1, 4, FAR, -FAR):
            check_error(self, InvalidNumber, number, sheet.cut, number)
            check_error(self, InvalidNumber, number, sheet.cut, number=number)
        self.assertEqual(sheet.chain.steps, PAIR + [("turn", 1)])
        sheet.undo()
        self.assertEqual(sheet.chain.steps, PAIR)
        check_error(self, NothingToUndo, 0, sheet.undo)

    def test_many_calls(self):
        sheet = Sheet(Chain(2, PAIR))
        for number in range(50):
            self.assertEqual(sheet.put(0, ("lift", 0, (0, -1), number % 2 + 1, 1)) is None, False)
        for _ in range(50):
            sheet.undo()
        self.assertEqual(sheet.chain, Chain(2, PAIR))
        check_error(self, NothingToUndo, 0, sheet.undo)


class OfTextTest(unittest.TestCase):

    def test_two_sheets_of_one_text(self):
        text = "2; lift 0 0 -1 0 1; lift 1 1 0 0 2"
        first, second = Sheet.of_text(text), Sheet.of_text(text=text)
        self.assertIs(first.__class__, Sheet)
        self.assertIs(first == second, True)
        first.cut(1)
        self.assertEqual((first.chain.steps, second.chain.steps), (PAIR[:1], PAIR))
        self.assertIs(first == second, False)
        check_error(self, NothingToUndo, 0, second.undo)
        first.undo()
        self.assertIs(first == second, True)
        check_error(self, NothingToUndo, 0, first.undo)

    def test_unreadable(self):
        for text in ("", "4", "2;", "2; turn 2", "2; turn 0; hop 1", "2 turn 0", "2; lift 0 0 -0 0 1", " 2"):
            check_error(self, Unreadable, text, Sheet.of_text, text)
            check_error(self, Unreadable, text, Sheet.of_text, text=text)
            check_error(self, Unreadable, text, Sheet(Chain(2, [])).of_text, text)


if __name__ == "__main__":
    unittest.main()
