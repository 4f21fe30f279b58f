"""Points 1, 7, 9, 10 and 11: bounds from below, and the greatest least sum."""

import unittest

from piecebounds.least import first_cut, greatest_least, most_pieces
from piecebounds.rows import is_cut
from tests.things import (all_cuts_of, check_no_many, check_own, cuts_into, first_cut_by_table, rows_of_120,
                          slow_sums, small_rows, some_numbers, table_of)


def slow_first_cut(row, bound):
    """Of all cuts that reach the bound those of the most pieces, and of these the first one, or None."""
    reaching = [cut for cut in all_cuts_of(len(row)) if min(slow_sums(row, cut)) >= bound]
    return min(reaching, key=lambda cut: (-len(cut), cut), default=None)


def slow_greatest_least(row, many):
    bound = max(min(slow_sums(row, cut)) for cut in cuts_into(len(row), many))
    return (bound, min(cut for cut in cuts_into(len(row), many) if min(slow_sums(row, cut)) == bound))


class FromABound(unittest.TestCase):
    def check(self, row, bound, cut):
        with self.subTest(row=row[:10], bound=bound):
            self.assertEqual(first_cut(row, bound), cut)
            self.assertEqual(most_pieces(row, bound), None if cut is None else len(cut) + 1)

    def test_ordinary_rows(self):
        self.check([7, 2, 5, 10, 8], 7, [1, 3, 4])
        self.check([7, 2, 5, 10, 8], 8, [2, 4])
        self.check([7, 2, 5, 10, 8], 14, [3])
        self.check([7, 2, 5, 10, 8], 15, [])
        self.check([1, 2, 3, 4, 5], 5, [3])
        self.check([2, 2, 2, 2], 3, [2])
        self.check([2, 2, 2, 2, 2], 4, [2])

    def test_bounds_at_the_edges(self):
        row = [3, 9, 1, 2, 5]
        self.check(row, -10 ** 30, [1, 2, 3, 4])
        self.check(row, -1, [1, 2, 3, 4])
        self.check(row, 0, [1, 2, 3, 4])
        self.check(row, 1, [1, 2, 3, 4])
        self.check(row, 2, [1, 2, 4])
        self.check(row, 8, [2])
        self.check(row, 9, [])
        self.check(row, 10, [])
        self.check(row, 20, [])
        self.check(row, 21, None)
        self.check(row, 10 ** 30, None)

    def test_half_of_the_sum(self):
        self.check([3, 5, 8], 8, [2])
        self.check([3, 5, 8], 9, [])
        self.check([4, 4], 4, [1])
        self.check([4, 4], 5, [])

    def test_a_row_of_one_number(self):
        self.check([5], -1, [])
        self.check([5], 0, [])
        self.check([5], 5, [])
        self.check([5], 6, None)
        self.check([0], -1, [])
        self.check([0], 0, [])
        self.check([0], 1, None)

    def test_rows_with_noughts(self):
        self.check([0, 0, 0], 0, [1, 2])
        self.check([0, 0, 0], -1, [1, 2])
        self.check([0, 0, 0], 1, None)
        self.check([5, 0, 5, 0], 5, [1])
        self.check([0, 5, 0, 5, 0], 5, [2])
        self.check([0, 1, 0], 0, [1, 2])
        self.check([0, 1, 0], 1, [])

    def test_the_last_piece_takes_what_is_left(self):
        self.check([5, 5, 1, 1], 5, [1])
        self.check([5, 5, 1, 1, 3], 5, [1, 2])

    def test_all_cuts_of_short_rows(self):
        more = [some_numbers(seed, 7, limit) for seed in range(5) for limit in (2, 9)]
        for row in small_rows((0, 1, 3), 5) + [[2, 9, 4, 0, 4, 9, 2], [6, 6, 0, 0, 6, 6, 1]] + more:
            for bound in [-10 ** 30, 10 ** 30] + list(range(-1, sum(row) + 2)):
                cut = slow_first_cut(row, bound)
                self.assertEqual(first_cut(row, bound), cut, (row, bound))
                self.assertEqual(most_pieces(row, bound), None if cut is None else len(cut) + 1, (row, bound))

    def test_all_cuts_of_rows_of_great_numbers(self):
        for row in [some_numbers(seed, 7, 10 ** 12) for seed in range(5)]:
            total = sum(row)
            for bound in (min(row) - 1, min(row), min(row) + 1, max(row), max(row) + 1, total // 3, total // 2,
                          total // 2 + 1, total - 1, total, total + 1):
                cut = slow_first_cut(row, bound)
                self.assertEqual(first_cut(row, bound), cut, (row, bound))
                self.assertEqual(most_pieces(row, bound), None if cut is None else len(cut) + 1, (row, bound))

    def test_long_rows(self):
        self.check([1] * 120, 1, list(range(1, 120)))
        self.check([1] * 120, 7, list(range(7, 119, 7)))
        self.check([10 ** 12] * 120, 10 ** 12, list(range(1, 120)))
        self.check([10 ** 12] * 120, 10 ** 12 + 1, list(range(2, 120, 2)))
        self.check([10 ** 12] * 120, 60 * 10 ** 12, [60])
        self.check([10 ** 12] * 120, 60 * 10 ** 12 + 1, [])
        self.check([10 ** 12] * 120, 120 * 10 ** 12, [])
        self.check([10 ** 12] * 120, 120 * 10 ** 12 + 1, None)

    def test_kinds_of_what_is_told(self):
        self.assertIs(type(most_pieces([4, 4, 4], 5)), int)
        self.assertIs(type(first_cut([4, 4, 4], 5)), list)

    def test_what_is_told_is_the_askers_own(self):
        for bound in (-1, 0, 4, 5, 9, 14, 15, 10 ** 30):
            for function in (most_pieces, first_cut):
                with self.subTest(bound=bound, function=function.__name__):
                    check_own(self, function, lambda: [[5, 0, 5, 4], bound])


class GreatestLeast(unittest.TestCase):
    def test_ordinary_rows(self):
        for row, many, expected in (
            ([7, 2, 5, 10, 8], 1, (32, [])),
            ([7, 2, 5, 10, 8], 2, (14, [3])),
            ([7, 2, 5, 10, 8], 3, (8, [2, 4])),
            ([7, 2, 5, 10, 8], 4, (7, [1, 3, 4])),
            ([7, 2, 5, 10, 8], 5, (2, [1, 2, 3, 4])),
            ([5], 1, (5, [])),
            ([0], 1, (0, [])),
        ):
            with self.subTest(row=row, many=many):
                self.assertEqual(greatest_least(row, many), expected)

    def test_the_first_cut_is_told(self):
        for row, many, expected in (
            ([0, 0, 0, 0], 3, (0, [1, 2])),
            ([0, 0, 0, 9], 3, (0, [1, 2])),
            ([5, 0, 5], 2, (5, [1])),
            ([9, 0, 0, 1], 2, (1, [1])),
            ([2, 2, 2, 2], 3, (2, [1, 2])),
            ([2, 2, 2, 2, 2], 3, (2, [1, 2])),
            ([2, 2, 2, 2, 2], 2, (4, [2])),
            # Five pieces reach 2 here; just so many as asked for are told.
            ([2, 2, 2, 2, 2], 4, (2, [1, 2, 3])),
        ):
            with self.subTest(row=row, many=many):
                self.assertEqual(greatest_least(row, many), expected)

    def test_all_cuts_of_short_rows(self):
        more = [some_numbers(seed, 8, limit) for seed in range(10) for limit in (2, 9, 10 ** 12)]
        for row in small_rows((0, 1, 2), 6) + small_rows((0, 3, 4, 9), 4) + more:
            for many in range(1, len(row) + 1):
                self.assertEqual(greatest_least(row, many), slow_greatest_least(row, many), (row, many))

    def test_kinds_of_what_is_told(self):
        told = greatest_least([4, 4, 4], 2)
        self.assertIs(type(told), tuple)
        self.assertEqual(len(told), 2)
        self.assertIs(type(told[0]), int)
        self.assertIs(type(told[1]), list)

    def test_rows_of_120_numbers(self):
        for row in rows_of_120():
            table = table_of(row, min, max)
            for many in range(1, 121):
                bound, cut = greatest_least(row, many)
                with self.subTest(many=many):
                    self.assertEqual(bound, table[many][0])
                    self.assertTrue(is_cut(row, cut))
                    self.assertEqual(min(slow_sums(row, cut)), bound)
                    self.assertEqual(cut, first_cut_by_table(row, many, table, min))

    def test_what_is_told_is_the_askers_own(self):
        for many in (1, 2, 3, 4):
            with self.subTest(many=many):
                check_own(self, greatest_least, lambda: [[5, 0, 5, 4], many])

    def test_what_is_no_number_of_pieces(self):
        check_no_many(self, greatest_least, [])

    def test_numbers_of_pieces_at_the_edges(self):
        for row in ([5], [0, 0], [3, 1, 2], [1] * 120):
            self.assertEqual(greatest_least(row, 1), (sum(row), []))
            self.assertEqual(greatest_least(row, len(row)), (min(row), list(range(1, len(row)))))


if __name__ == "__main__":
    unittest.main()
