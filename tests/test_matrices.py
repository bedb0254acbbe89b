"""Point 2 and the interface of liftsteps/matrices.py."""

import random
import unittest
from fractions import Fraction
from itertools import permutations, product
from math import gcd

from liftsteps.errors import InvalidMatrix, LiftError, OtherChannels, Singular
from liftsteps.matrices import Matrix

FAR = 10 ** 31
ENTRIES = [0, 0, 1, -1, 2, -3, 6, -6, 12, 20, FAR, -FAR, FAR + 6, 6 * FAR]
BOTTOMS = [1, 2, 3, 4, 6, 12, 35, FAR, 6 * FAR]


def samples(sizes=(1, 2, 3), each=60):
    """Return rows and bottoms, the same in every run."""
    source = random.Random(11)
    found = []
    for size in sizes:
        for _ in range(each):
            near = source.random() < 0.6
            choice = [0, 0, 1, -1, 2, -2, 3, -4, 6] if near else ENTRIES
            rows = [[source.choice(choice) for _ in range(size)] for _ in range(size)]
            found.append((rows, source.choice(BOTTOMS)))
        found.append(([[0] * size for _ in range(size)], source.choice(BOTTOMS[1:])))
    return found


def fractions_of(rows, bottom):
    return [[Fraction(entry, bottom) for entry in row] for row in rows]


def values_of(matrix):
    return fractions_of(matrix.rows, matrix.bottom)


def pair_of(value):
    return (value.numerator, value.denominator)


def multiplied(first, second):
    size = range(len(first))
    return [[sum(first[i][k] * second[k][j] for k in size) for j in size] for i in size]


def leibniz(rows):
    total = Fraction(0)
    for order in permutations(range(len(rows))):
        part = Fraction(1)
        for i, j in enumerate(order):
            part *= rows[i][j]
            part *= (-1) ** sum(1 for later in order[i + 1:] if later < j)
        total += part
    return total


def identity(size):
    return [[1 if i == j else 0 for j in range(size)] for i in range(size)]


class LeastFormTest(unittest.TestCase):

    def test_least_form_of_samples(self):
        for rows, bottom in samples():
            matrix = Matrix(rows, bottom)
            with self.subTest(rows=rows, bottom=bottom):
                self.assertEqual(values_of(matrix), fractions_of(rows, bottom))
                self.assertGreaterEqual(matrix.bottom, 1)
                self.assertEqual(gcd(matrix.bottom, *[entry for row in matrix.rows for entry in row]), 1)
                self.assertEqual(len(matrix), len(rows))

    def test_told_cases(self):
        cases = [
            ([[4, 0], [0, 2]], 2, [[2, 0], [0, 1]], 1),
            ([[4, 2], [0, 2]], 4, [[2, 1], [0, 1]], 2),
            ([[-6]], 4, [[-3]], 2),
            ([[-6]], 6, [[-1]], 1),
            ([[3, 6], [9, 0]], 2, [[3, 6], [9, 0]], 2),
            ([[6, 10], [15, 0]], 30, [[6, 10], [15, 0]], 30),
            ([[0]], 7, [[0]], 1),
            ([[0, 0, 0]] * 3, FAR, [[0, 0, 0]] * 3, 1),
            ([[FAR, 0], [0, -3 * FAR]], 2 * FAR, [[1, 0], [0, -3]], 2),
            ([[FAR + 1]], FAR, [[FAR + 1]], FAR),
            ([[10 ** 300]], 4 * 10 ** 300, [[1]], 4),
        ]
        for rows, bottom, least, least_bottom in cases:
            with self.subTest(rows=rows, bottom=bottom):
                self.assertEqual(Matrix(rows, bottom).rows, least)
                self.assertEqual(Matrix(rows, bottom).bottom, least_bottom)

    def test_arguments_by_name(self):
        matrix = Matrix(bottom=2, rows=[[2, 1], [0, 4]])
        self.assertEqual((matrix.rows, matrix.bottom), ([[2, 1], [0, 4]], 2))
        self.assertEqual(matrix.after(inner=matrix), matrix.after(matrix))
        self.assertEqual(matrix.image(vector=(1, 2)), matrix.image((1, 2)))

    def test_kinds(self):
        matrix = Matrix([[2, 1], [0, 4]], 6)
        self.assertIs(matrix.rows.__class__, list)
        for row in matrix.rows:
            self.assertIs(row.__class__, list)
        self.assertIs(matrix.bottom.__class__, int)
        self.assertEqual(matrix.image((1, 1)).__class__, list)
        self.assertEqual([item.__class__ for item in matrix.image((1, 1))], [tuple, tuple])
        self.assertEqual(matrix.determinant().__class__, tuple)

    def test_handed_lists_may_change(self):
        rows = [[1, 2], [3, 4]]
        matrix = Matrix(rows, 5)
        rows[0][0] = 99
        rows[1] = [7, 7]
        rows.append([1])
        self.assertEqual((matrix.rows, matrix.bottom), ([[1, 2], [3, 4]], 5))

    def test_told_lists_may_change(self):
        matrix = Matrix([[1, 2], [3, 4]], 5)
        told = matrix.rows
        told[0][0] = 99
        told.pop()
        self.assertEqual(matrix.rows, [[1, 2], [3, 4]])
        self.assertIsNot(matrix.rows, matrix.rows)
        self.assertIsNot(matrix.rows[0], matrix.rows[0])
        image = matrix.image((1, 0))
        image.clear()
        self.assertEqual(matrix.image((1, 0)), [(1, 5), (3, 5)])

    def test_same_list_twice_as_a_row(self):
        row = [1, 2]
        matrix = Matrix([row, row], 1)
        told = matrix.rows
        told[0].append(5)
        self.assertEqual(told[1], [1, 2])

    def test_arguments_stay_as_they_are(self):
        rows = [[2, 4], [6, 8]]
        inner = Matrix([[1, 3], [0, 2]], 4)
        matrix = Matrix(rows, 2)
        matrix.after(inner), matrix.image((1, 2)), matrix.determinant(), matrix.inverse()
        self.assertEqual(rows, [[2, 4], [6, 8]])
        self.assertEqual((inner.rows, inner.bottom), ([[1, 3], [0, 2]], 4))
        self.assertEqual((matrix.rows, matrix.bottom), ([[1, 2], [3, 4]], 1))


class InvalidMatrixTest(unittest.TestCase):

    def check(self, rows, bottom, value):
        before = [list(row) for row in rows]
        with self.assertRaises(InvalidMatrix) as caught:
            Matrix(rows, bottom)
        self.assertEqual(caught.exception.value, value)
        self.assertIs(caught.exception.__class__, InvalidMatrix)
        self.assertEqual(rows, before)

    def test_no_rows(self):
        self.check([], 1, None)
        self.check([], 0, None)

    def test_bottom_below_one(self):
        for bottom in (0, -1, -2, -FAR):
            self.check([[1]], bottom, None)
            self.check([[0, 0], [0, 0]], bottom, None)

    def test_bottom_comes_before_rows(self):
        self.check([[1, 2], [3]], 0, None)

    def test_first_wrong_row(self):
        self.check([[]], 1, 0)
        self.check([[1, 2]], 1, 0)
        self.check([[1], [2]], 1, 0)
        self.check([[1, 2], [3]], 1, 1)
        self.check([[1, 2], [3, 4, 5]], 1, 1)
        self.check([[1, 2], []], 3, 1)
        self.check([[1, 2, 3], [4, 5, 6], [7, 8]], 1, 2)
        self.check([[1, 2, 3], [4, 5], [7, 8]], FAR, 1)
        self.check([[1, 2, 3], [4, 5, 6, 7], [7, 8, 9]], 1, 1)
        self.check([[1, 2], [3, 4], [5, 6]], 1, 0)


class EqualityTest(unittest.TestCase):

    def test_equal_if_all_fractions_are(self):
        found = samples(each=25)
        for (rows, bottom), (others, other_bottom) in product(found[:40], found[:40]):
            first, second = Matrix(rows, bottom), Matrix(others, other_bottom)
            same = fractions_of(rows, bottom) == fractions_of(others, other_bottom)
            self.assertEqual(first == second, same)
            self.assertEqual(first != second, not same)

    def test_equal_by_another_bottom(self):
        for rows, bottom in samples():
            for times in (1, 2, 7, FAR):
                scaled = Matrix([[entry * times for entry in row] for row in rows], bottom * times)
                self.assertTrue(scaled == Matrix(rows, bottom))

    def test_unequal(self):
        self.assertFalse(Matrix([[1]], 1) == Matrix([[1]], 2))
        self.assertFalse(Matrix([[1]], 1) == Matrix([[1, 0], [0, 1]], 1))
        self.assertFalse(Matrix([[0]], 1) == Matrix([[0, 0], [0, 0]], 1))
        self.assertFalse(Matrix([[1, 2], [3, 4]], 1) == Matrix([[1, 3], [2, 4]], 1))
        self.assertFalse(Matrix([[FAR]], 1) == Matrix([[FAR + 1]], 1))

    def test_nothing_else_is_equal(self):
        matrix = Matrix([[1]], 1)
        for other in ([[1]], ([[1]], 1), ((1,),), (1, 1), None, "[[1]]", 1, True, {}, object()):
            self.assertIs(matrix == other, False)
            self.assertIs(other == matrix, False)
            self.assertIs(matrix != other, True)


class ProductTest(unittest.TestCase):

    def test_samples(self):
        found = samples(each=25)
        for (rows, bottom), (others, other_bottom) in product(found, found[::3]):
            if len(rows) == len(others):
                outcome = Matrix(rows, bottom).after(Matrix(others, other_bottom))
                told = multiplied(fractions_of(rows, bottom), fractions_of(others, other_bottom))
                self.assertEqual(values_of(outcome), told)

    def test_order(self):
        swap, double = Matrix([[0, 1], [1, 0]], 1), Matrix([[2, 0], [0, 1]], 1)
        self.assertEqual(double.after(swap).rows, [[0, 2], [1, 0]])
        self.assertEqual(swap.after(double).rows, [[0, 1], [2, 0]])
        # The inner one is done first.
        self.assertEqual(double.after(swap).image((3, 5)), [(10, 1), (3, 1)])
        self.assertEqual(swap.after(double).image((3, 5)), [(5, 1), (6, 1)])

    def test_least_form_of_a_product(self):
        outcome = Matrix([[1, 1], [1, -1]], 2).after(Matrix([[1, 1], [1, -1]], 2))
        self.assertEqual((outcome.rows, outcome.bottom), ([[1, 0], [0, 1]], 2))
        zeros = Matrix([[1, 0], [0, 0]], 3).after(Matrix([[0, 0], [0, 1]], 5))
        self.assertEqual((zeros.rows, zeros.bottom), ([[0, 0], [0, 0]], 1))

    def test_other_number_of_rows(self):
        matrices = [Matrix(identity(size), 1) for size in (1, 2, 3)]
        for first, second in permutations(matrices, 2):
            before = [(matrix.rows, matrix.bottom) for matrix in (first, second)]
            with self.assertRaises(OtherChannels) as caught:
                first.after(second)
            self.assertEqual(caught.exception.value, len(second))
            self.assertIsInstance(caught.exception, LiftError)
            self.assertEqual([(matrix.rows, matrix.bottom) for matrix in (first, second)], before)


class ImageTest(unittest.TestCase):

    def test_samples(self):
        for rows, bottom in samples():
            matrix = Matrix(rows, bottom)
            vectors = [(1, -2, 3), (0, 0, 0), (FAR, -FAR, 7), (-6, 12, FAR + 1)]
            for vector in [vector[:len(rows)] for vector in vectors]:
                told = [sum(a * b for a, b in zip(row, vector)) for row in fractions_of(rows, bottom)]
                self.assertEqual(matrix.image(vector), [pair_of(value) for value in told])

    def test_lowest_terms(self):
        matrix = Matrix([[1, 1], [1, -1]], 6)
        self.assertEqual(matrix.image((1, 1)), [(1, 3), (0, 1)])
        self.assertEqual(matrix.image((-4, 1)), [(-1, 2), (-5, 6)])
        self.assertEqual(matrix.image((0, 0)), [(0, 1), (0, 1)])


class DeterminantTest(unittest.TestCase):

    def test_samples(self):
        for rows, bottom in samples((1, 2, 3, 4)):
            self.assertEqual(Matrix(rows, bottom).determinant(), pair_of(leibniz(fractions_of(rows, bottom))))

    def test_all_small_matrices(self):
        for entries in product((-1, 0, 1), repeat=9):
            rows = [list(entries[0:3]), list(entries[3:6]), list(entries[6:9])]
            (a, b, c), (d, e, f), (g, h, i) = rows
            told = a * (e * i - f * h) - b * (d * i - f * g) + c * (d * h - e * g)
            self.assertEqual(Matrix(rows, 1).determinant(), (told, 1))

    def test_signs(self):
        self.assertEqual(Matrix([[0, 1], [1, 0]], 1).determinant(), (-1, 1))
        self.assertEqual(Matrix([[0, 1, 0], [0, 0, 1], [1, 0, 0]], 1).determinant(), (1, 1))
        self.assertEqual(Matrix([[0, 0, 1], [0, 1, 0], [1, 0, 0]], 2).determinant(), (-1, 8))
        self.assertEqual(Matrix([[-4]], 6).determinant(), (-2, 3))
        self.assertEqual(Matrix([[1, 2], [2, 4]], 3).determinant(), (0, 1))
        self.assertEqual(Matrix([[0]], 3).determinant(), (0, 1))
        self.assertEqual(Matrix([[FAR, 1], [1, FAR]], FAR).determinant(), (FAR * FAR - 1, FAR * FAR))


class InverseTest(unittest.TestCase):

    def test_both_sides(self):
        inverted = 0
        for rows, bottom in samples((1, 2, 3, 4, 5)):
            matrix = Matrix(rows, bottom)
            if leibniz(fractions_of(rows, bottom)) != 0:
                inverted += 1
                inverse = matrix.inverse()
                unit = Matrix(identity(len(rows)), 1)
                self.assertEqual(matrix.after(inverse), unit)
                self.assertEqual(inverse.after(matrix), unit)
                self.assertEqual(inverse.inverse(), matrix)
                self.assertEqual((matrix.rows, matrix.bottom), (Matrix(rows, bottom).rows, Matrix(rows, bottom).bottom))
        self.assertGreater(inverted, 100)

    def test_told_inverses(self):
        cases = [
            ([[2, -2], [1, 1]], 2, [[1, 2], [-1, 2]], 2),
            ([[-3]], 6, [[-2]], 1),
            ([[5]], 1, [[1]], 5),
            ([[0, 1], [1, 0]], 3, [[0, 3], [3, 0]], 1),
            ([[1, 2], [3, 4]], 1, [[-4, 2], [3, -1]], 2),
            ([[1, 2, 3], [0, 1, 4], [5, 6, 0]], 1, [[-24, 18, 5], [20, -15, -4], [-5, 4, 1]], 1),
        ]
        for rows, bottom, least, least_bottom in cases:
            inverse = Matrix(rows, bottom).inverse()
            self.assertEqual((inverse.rows, inverse.bottom), (least, least_bottom))

    def test_singular(self):
        singular = [
            ([[0]], 3), ([[0, 0], [0, 0]], 1), ([[1, 2], [2, 4]], 3), ([[0, 1], [0, 5]], 1), ([[0, 0], [1, 5]], 1),
            ([[1, 2, 3], [4, 5, 6], [7, 8, 9]], 2), ([[1, 0, 0], [0, 1, 0], [0, 0, 0]], 1),
            ([[FAR, 2 * FAR], [1, 2]], 1),
        ]
        for rows, bottom in singular:
            matrix = Matrix(rows, bottom)
            before = (matrix.rows, matrix.bottom)
            with self.assertRaises(Singular) as caught:
                matrix.inverse()
            self.assertIs(caught.exception.value, None)
            self.assertEqual((matrix.rows, matrix.bottom), before)

    def test_nearly_singular(self):
        matrix = Matrix([[FAR, FAR + 1], [FAR - 1, FAR]], 1)
        self.assertEqual(matrix.determinant(), (1, 1))
        self.assertEqual(matrix.inverse().rows, [[FAR, -FAR - 1], [1 - FAR, FAR]])


class ExampleTest(unittest.TestCase):

    def test_document(self):
        half = Matrix([[2, -2], [1, 1]], 2)
        told = [
            half.determinant(), half.image((5, 2)), half.inverse().rows, half.inverse().bottom,
            half.after(half.inverse()).rows, Matrix([[4, 0], [0, 2]], 2).bottom,
        ]
        self.assertEqual(told, [(1, 1), [(3, 1), (7, 2)], [[1, 2], [-1, 2]], 2, [[1, 0], [0, 1]], 1])


if __name__ == "__main__":
    unittest.main()
