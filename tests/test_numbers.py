import random
import unittest

from bracketnumbers.numbers import count, next_row, number, row_of
from bracketnumbers.rows import depth, is_whole
from holding import Refusals
from samples import LARGEST, all_whole_rows, long_texts, sample_rows, spoilt, unwhole_texts

SMALL = 8
ROWS = sample_rows()
ALL_SMALL = [all_whole_rows(size) for size in range(SMALL + 1)]


def deepest(text):
    return max(text[:end].count("(") - text[:end].count(")") for end in range(len(text) + 1))


def counts_by_products(bound):
    """For each size, all rows are empty or `(` a `)` b, a with a bound of one less."""
    if bound == 0:
        return [1] + [0] * LARGEST
    within = counts_by_products(bound - 1)
    counts = [1]
    for size in range(1, LARGEST + 1):
        counts.append(sum(within[part] * counts[size - 1 - part] for part in range(size)))
    return counts


class Count(unittest.TestCase):
    def test_small_sizes_one_by_one(self):
        for size, rows in enumerate(ALL_SMALL):
            depths = [deepest(row) for row in rows]
            for bound in range(size + 4):
                self.assertEqual(count(size, bound), sum(one <= bound for one in depths), (size, bound))

    def test_no_bound_as_sums_of_products(self):
        counts = [1]
        for size in range(1, LARGEST + 1):
            counts.append(sum(counts[part] * counts[size - 1 - part] for part in range(size)))
        for size in range(LARGEST + 1):
            for bound in (size, size + 1, size + 7, 1000, 10 ** 40):
                self.assertEqual(count(size, bound), counts[size], (size, bound))

    def test_bounds_as_sums_of_products(self):
        for bound in (0, 1, 2, 3, 4, 5, 8, 13, 29, 30, 31, 58, 59, 60, 61):
            counts = counts_by_products(bound)
            for size in range(LARGEST + 1):
                self.assertEqual(count(size, bound), counts[size], (size, bound))

    def test_size_and_bound_nought(self):
        for bound in (0, 1, 2, 60, 10 ** 9):
            self.assertEqual(count(0, bound), 1)
        for size in range(1, LARGEST + 1):
            self.assertEqual(count(size, 0), 0)
            self.assertEqual(count(size, 1), 1)
            self.assertEqual(count(size, size) - count(size, size - 1), 1)

    def test_told_again_the_same(self):
        self.assertEqual(count(60, 60), 1583850964596120042686772779038896)
        self.assertEqual(count(60, 60), 1583850964596120042686772779038896)
        self.assertIs(type(count(0, 0)), int)


class Number(Refusals):
    def test_small_rows_in_order(self):
        for rows in ALL_SMALL:
            self.assertEqual([number(row) for row in sorted(rows)], list(range(len(rows))))

    def test_edges(self):
        self.assertEqual(number(""), 0)
        for size in range(LARGEST + 1):
            self.assertEqual(number("(" * size + ")" * size), 0)
            self.assertEqual(number("()" * size), count(size, size) - 1)

    def test_is_a_whole_number_below_the_count_and_leads_back(self):
        for row in ROWS:
            told = number(row)
            size = len(row) // 2
            self.assertIs(type(told), int)
            self.assertTrue(0 <= told < count(size, size), row)
            self.assertEqual(row_of(size, told), row)
            self.assertEqual(number(row), told)

    def test_the_row_ahead_has_the_lesser_number(self):
        for row in ROWS:
            for other in ROWS:
                if len(other) == len(row):
                    self.assertEqual(row < other, number(row) < number(other), (row, other))

    def test_no_row(self):
        for text in unwhole_texts() + long_texts():
            self.assert_no_row(number, text)
        for row in ROWS[::9]:
            for text in spoilt(row):
                self.assert_no_row(number, text)


class RowOf(Refusals):
    def test_small_rows_in_order(self):
        for size, rows in enumerate(ALL_SMALL):
            self.assertEqual([row_of(size, told) for told in range(len(rows))], sorted(rows))

    def test_numbers_of_all_sizes_lead_back(self):
        source = random.Random(22)
        for size in range(LARGEST + 1):
            total = count(size, size)
            for told in [0, total // 2, total - 1] + [source.randrange(total) for turn in range(6)]:
                row = row_of(size, told)
                self.assertIs(is_whole(row), True)
                self.assertEqual(len(row), 2 * size)
                self.assertLessEqual(depth(row), size)
                self.assertEqual(number(row), told)
                self.assertEqual(row_of(size, told), row)

    def test_no_row_below_nought_and_from_the_count_on(self):
        for size in range(LARGEST + 1):
            total = count(size, size)
            for told in (-1, -2, -total, -10 ** 5000, total, total + 1, 2 * total, 10 ** 5000):
                self.assert_no_row(row_of, size, told)

    def test_no_row_of_a_size_that_rows_have_not(self):
        for size in (-1, -2, 61, 62, 10 ** 9):
            self.assert_no_row(row_of, size, 0)


class NextRow(Refusals):
    def test_from_the_first_small_row_to_the_last(self):
        for size, rows in enumerate(ALL_SMALL):
            row = "(" * size + ")" * size
            walked = []
            while row is not None and len(walked) <= len(rows):
                walked.append(row)
                row = next_row(row)
            self.assertEqual(walked, sorted(rows))

    def test_has_the_number_one_more(self):
        for row in ROWS:
            size = len(row) // 2
            if row == "()" * size:
                self.assertIsNone(next_row(row))
            else:
                self.assertEqual(next_row(row), row_of(size, number(row) + 1))
                self.assertEqual(number(next_row(row)), number(row) + 1)

    def test_none_behind_the_empty_row(self):
        self.assertIsNone(next_row(""))

    def test_no_row(self):
        for text in unwhole_texts() + long_texts():
            self.assert_no_row(next_row, text)
        for row in ROWS[::9]:
            for text in spoilt(row):
                self.assert_no_row(next_row, text)
