"""Points 14 to 17: whole.py."""

import math
import random
import unittest
from fractions import Fraction

from helpers import Case
from wayfill.errors import BadNumber, BadRow, TooMany
from wayfill.whole import express, independent_rows, is_expression, kernel_rows, reduce_rows, row_rank

WITH_WIDTH = [reduce_rows, kernel_rows, row_rank, independent_rows]


def exact_reduced(rows, width):
    """The reduced rows by fractions."""
    rows = [[Fraction(number) for number in row] for row in rows]
    done = []
    for column in range(width):
        found = next((row for row in rows if row[column] != 0), None)
        if found is None:
            continue
        rows.remove(found)
        found = [number / found[column] for number in found]
        rows = [[x - row[column] * y for x, y in zip(row, found)] for row in rows]
        done = [[x - row[column] * y for x, y in zip(row, found)] for row in done] + [found]
    return [primitive(row) for row in done]


def primitive(row):
    scale = math.lcm(*[number.denominator for number in row])
    whole = [int(number * scale) for number in row]
    return [number // math.gcd(*whole) for number in whole]


def times(multipliers, rows, width):
    return [sum(many * row[at] for many, row in zip(multipliers, rows)) for at in range(width)]


def some_rows(seed, many, width, most):
    """Rows among which many are spanned by others."""
    luck = random.Random(seed)
    rows = []
    for _ in range(many):
        if rows and luck.random() < 0.4:
            one, other = luck.choice(rows), luck.choice(rows)
            rows.append([2 * x - 3 * y for x, y in zip(one, other)])
        else:
            rows.append([luck.choice([0, 0, luck.randint(-most, most)]) for _ in range(width)])
    return rows


SAMPLES = [([], 0), ([[]], 0), ([[], []], 0), ([], 3), ([[0, 0]], 2), ([[0, 0], [0, 0]], 2), ([[2, 4], [1, 2]], 2),
           ([[3, -6, 9]], 3), ([[0, -2, 3], [5, 0, 0]], 3), ([[7]], 1), ([[-7]], 1), ([[1, 2], [1, 2], [1, 2]], 2),
           ([[2, 3], [4, 5], [6, 7]], 2), ([[0, 0, 4, 6], [0, 0, 0, 0], [0, 3, 1, 1]], 4)]
SAMPLES += [(some_rows(seed, seed % 9, seed % 6 + 1, 9), seed % 6 + 1) for seed in range(60)]
SAMPLES += [(some_rows(91, 100, 24, 999999), 24), (some_rows(92, 30, 24, 9), 24), (some_rows(93, 20, 7, 999999), 7)]


class TestReducedRows(Case):

    def test_they_are_the_reduced_rows(self):
        for rows, width in SAMPLES:
            self.assertEqual(reduce_rows(rows, width=width)[0], exact_reduced(rows, width))

    def test_each_expression_multiplied_out(self):
        for rows, width in SAMPLES:
            reduced, papers = reduce_rows(rows, width=width)
            self.assertEqual(len(papers), len(reduced))
            for row, (factor, multipliers) in zip(reduced, papers):
                self.assertGreaterEqual(factor, 1)
                self.assertEqual(len(multipliers), len(rows))
                self.assertEqual(times(multipliers, rows, width), [factor * number for number in row])

    def test_the_answer_is_a_tuple_of_lists(self):
        self.assertEqual(reduce_rows([], width=0), ([], []))
        self.assertEqual(reduce_rows([[0, 0]], width=2), ([], []))
        reduced, papers = reduce_rows([[0, -2]], width=2)
        self.assertEqual((reduced, papers), ([[0, 1]], [(2, [-1])]))
        self.assertIsInstance(papers[0], tuple)

    def test_reduced_rows_as_rows_again(self):
        for rows, width in SAMPLES:
            reduced = reduce_rows(rows, width=width)[0]
            again, papers = reduce_rows(reduced, width=width)
            self.assertEqual(again, reduced)
            for row, paper in zip(again, papers):
                self.judges(True, is_expression, reduced, row, paper)

    def test_larger_numbers_as_rows_again(self):
        reduced = reduce_rows(some_rows(94, 12, 24, 999999), width=24)[0]
        self.assertGreater(max(abs(number) for row in reduced for number in row), 10 ** 12)
        kernel = kernel_rows(reduced, width=24)
        self.assertEqual(reduce_rows(kernel, width=24)[0], exact_reduced(kernel, 24))
        total = [sum(column) for column in zip(*reduced)]
        self.judges(True, is_expression, reduced, total, express(reduced, total))


class TestKernelRows(Case):

    def test_they_have_the_stated_properties(self):
        for rows, width in SAMPLES:
            leads = [next(at for at, number in enumerate(row) if number) for row in exact_reduced(rows, width)]
            free = [column for column in range(width) if column not in leads]
            kernel = kernel_rows(rows, width=width)
            self.assertEqual(len(kernel), len(free))
            for column, row in zip(free, kernel):
                self.assertEqual(len(row), width)
                self.assertGreater(row[column], 0)
                self.assertEqual([row[other] for other in free if other != column], [0] * (len(free) - 1))
                self.assertEqual(math.gcd(*row), 1)
                for other in rows:
                    self.assertEqual(sum(x * y for x, y in zip(row, other)), 0)

    def test_without_rows_each_column_has_one(self):
        self.assertEqual(kernel_rows([], width=3), [[1, 0, 0], [0, 1, 0], [0, 0, 1]])
        self.assertEqual(kernel_rows([[0, 0]], width=2), [[1, 0], [0, 1]])
        self.assertEqual(kernel_rows([], width=0), [])
        self.assertEqual(kernel_rows([[]], width=0), [])

    def test_ordinary_ones(self):
        self.assertEqual(kernel_rows([[2, 4], [1, 2]], width=2), [[-2, 1]])
        self.assertEqual(kernel_rows([[2, 3]], width=2), [[-3, 2]])
        self.assertEqual(kernel_rows([[4, 0, 6], [0, 9, 6]], width=3), [[-9, -4, 6]])
        self.assertEqual(kernel_rows([[1, 0], [0, 1]], width=2), [])


class TestRank(Case):

    def test_rank(self):
        for rows, width in SAMPLES:
            self.assertEqual(row_rank(rows, width=width), len(exact_reduced(rows, width)))

    def test_independent_rows(self):
        for rows, width in SAMPLES[:-3]:
            ranks = [len(exact_reduced(rows[:at], width)) for at in range(len(rows) + 1)]
            grown = [at for at in range(len(rows)) if ranks[at + 1] > ranks[at]]
            self.assertEqual(independent_rows(rows, width=width), grown)

    def test_ordinary_independent_rows(self):
        self.assertEqual(independent_rows([[0, 0], [1, 2], [2, 4], [0, 1], [5, 5]], width=2), [1, 3])
        self.assertEqual(independent_rows([[1, 2], [1, 2]], width=2), [0])
        self.assertEqual(independent_rows([[]], width=0), [])


class TestExaminedRows(Case):

    def test_a_hundred_rows_and_one_more(self):
        for call in WITH_WIDTH:
            call([[1]] * 100, width=1)
            self.refuses(TooMany(), call, [[1]] * 101, width=1)
            self.refuses(TooMany(), call, [[]] * 1000, width=0)
        self.assertEqual(express([[2]] * 100, [3])[0], 2)
        self.refuses(TooMany(), express, [[2]] * 101, [3])

    def test_width(self):
        for call in WITH_WIDTH:
            call([[0] * 24], width=24)
            for width in [-1, 25, 10 ** 17, -10 ** 17]:
                self.refuses(BadNumber(width), call, [], width=width)
        self.assertEqual(express([[1] * 24], [0] * 24), (1, [0]))
        self.refuses(BadNumber(25), express, [[1] * 25], [0] * 25)
        self.refuses(BadNumber(1000), express, [], [0] * 1000)

    def test_a_row_of_another_length(self):
        for call in WITH_WIDTH:
            for at in range(4):
                rows = [[1, 2] for _ in range(4)]
                rows[at] = [1]
                self.refuses(BadRow(at), call, rows, width=2)
                rows[at] = [1, 2, 3]
                self.refuses(BadRow(at), call, rows, width=2)
                self.refuses(BadRow(at), express, rows, [1, 2])
            self.refuses(BadRow(1), call, [[1], [], [1, 2]], width=1)
            self.refuses(BadRow(0), call, [[1]], width=0)
            # Also behind rows that fill every column.
            self.refuses(BadRow(2), call, [[1, 0], [0, 1], []], width=2)

    def test_the_order_of_the_errors(self):
        for call in WITH_WIDTH:
            self.refuses(TooMany(), call, [[1]] * 101, width=25)
            self.refuses(TooMany(), call, [[1, 2]] * 101, width=-1)
            self.refuses(BadNumber(25), call, [[1]], width=25)
            self.refuses(BadNumber(-1), call, [[1]] * 100, width=-1)
        self.refuses(TooMany(), express, [[1]] * 101, [0] * 25)
        self.refuses(BadNumber(25), express, [[1]], [0] * 25)
        self.refuses(BadRow(0), express, [[1]], [0] * 24)


class TestExpressions(Case):

    def test_right_ones(self):
        for rows, width in SAMPLES:
            luck = random.Random(width)
            for _ in range(3):
                multipliers = [luck.randint(-3, 3) for _ in rows]
                target = times(multipliers, rows, width)
                factor, found = express(rows, target)
                self.assertGreaterEqual(factor, 1)
                self.assertEqual(len(found), len(rows))
                self.assertEqual(times(found, rows, width), [factor * number for number in target])

    def test_a_factor_is_needed(self):
        paper = express([[2, 4]], [1, 2])
        self.judges(True, is_expression, [[2, 4]], [1, 2], paper)
        self.assertEqual(paper[0] * 1, paper[1][0] * 2)
        factor, multipliers = express([[0, 3]], [0, -2])
        self.assertEqual((3 * multipliers[0], factor > 0), (-2 * factor, True))

    def test_targets_that_are_not_spanned(self):
        self.assertIsNone(express([[1, 0]], [0, 1]))
        self.assertIsNone(express([], [1]))
        self.assertIsNone(express([[0, 0]], [0, 5]))
        self.assertIsNone(express([[1, 1, 0], [0, 1, 1]], [1, 0, 1]))

    def test_the_row_of_zeros_is_always_spanned(self):
        self.assertEqual(express([], []), (1, []))
        self.judges(True, is_expression, [], [0, 0], express([], [0, 0]))
        self.judges(True, is_expression, [[1, 0], [2, 0]], [0, 0], express([[1, 0], [2, 0]], [0, 0]))
        self.judges(True, is_expression, [[]], [], express([[]], []))

    def test_is_expression(self):
        rows = [[1, 2], [3, 4]]
        self.judges(True, is_expression, rows, [4, 6], (1, [1, 1]))
        self.judges(True, is_expression, rows, [2, 3], (2, [1, 1]))
        self.judges(False, is_expression, rows, [4, 6], (2, [1, 1]))
        self.judges(False, is_expression, rows, [4, 7], (1, [1, 1]))
        self.judges(False, is_expression, rows, [5, 6], (1, [1, 1]))
        self.judges(True, is_expression, [], [], (7, []))

    def test_a_factor_below_one(self):
        self.judges(False, is_expression, [[1, 2]], [0, 0], (0, [0]))
        self.judges(False, is_expression, [[1, 2]], [-1, -2], (-1, [1]))
        self.judges(False, is_expression, [[1, 2]], [1, 2], (-10 ** 17, [-10 ** 17]))

    def test_another_number_of_multipliers(self):
        self.judges(False, is_expression, [[1, 2]], [1, 2], (1, [1, 0]))
        self.judges(False, is_expression, [[1, 2], [0, 0]], [1, 2], (1, [1]))
        self.judges(False, is_expression, [], [0], (1, [0]))

    def test_sizes_beyond_the_bounds(self):
        self.judges(True, is_expression, [[0] * 24], [0] * 24, (1, [0]))
        self.judges(False, is_expression, [[0] * 25], [0] * 25, (1, [0]))
        self.judges(True, is_expression, [[1]] * 100, [1], (1, [1] + [0] * 99))
        self.judges(False, is_expression, [[1]] * 101, [1], (1, [1] + [0] * 100))
        self.judges(False, is_expression, [[1, 2], [1]], [1, 2], (1, [1, 0]))
        self.judges(False, is_expression, [[1, 2], [1, 2, 3]], [1, 2], (1, [1, 0]))

    def test_numbers_of_18_digits(self):
        big = 10 ** 18 - 1
        self.judges(True, is_expression, [[big, -big]], [1, -1], express([[big, -big]], [1, -1]))
        self.judges(True, is_expression, [[1]], [big], (big, [big * big]))


if __name__ == "__main__":
    unittest.main()
