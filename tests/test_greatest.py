"""Points 1, 6, 7 and 8: bounds from above, and the least greatest sum."""

import unittest

from piecebounds.greatest import fewest_pieces, least_greatest, long_cut
from piecebounds.rows import is_cut
from tests.things import (all_cuts_of, check_no_many, check_own, cuts_into, first_cut_by_table, rows_of_120,
                          slow_sums, small_rows, some_numbers, table_of)


def lengths(row, cut):
    return [end - begin for begin, end in zip([0] + cut, cut + [len(row)])]


def slow_long_cut(row, bound):
    """Of all cuts within the bound the one with the longest pieces, from the first on, or None."""
    within = [cut for cut in all_cuts_of(len(row)) if max(slow_sums(row, cut)) <= bound]
    return max(within, key=lambda cut: lengths(row, cut), default=None)


def slow_fewest(row, bound):
    return min([len(cut) + 1 for cut in all_cuts_of(len(row)) if max(slow_sums(row, cut)) <= bound], default=None)


def slow_least_greatest(row, many):
    return min((max(slow_sums(row, cut)), cut) for cut in cuts_into(len(row), many))


class WithinABound(unittest.TestCase):
    def check(self, row, bound, cut):
        with self.subTest(row=row[:10], bound=bound):
            self.assertEqual(long_cut(row, bound), cut)
            self.assertEqual(fewest_pieces(row, bound), None if cut is None else len(cut) + 1)

    def test_ordinary_rows(self):
        self.check([7, 2, 5, 10, 8], 18, [3])
        self.check([7, 2, 5, 10, 8], 14, [3, 4])
        self.check([7, 2, 5, 10, 8], 10, [2, 3, 4])
        self.check([1, 2, 3, 4, 5], 5, [2, 3, 4])
        self.check([2, 2, 2, 2], 4, [2])
        self.check([2, 2, 2, 2], 5, [2])

    def test_bounds_at_the_edges(self):
        row = [3, 9, 1, 0, 4]
        self.check(row, -10 ** 30, None)
        self.check(row, -1, None)
        self.check(row, 0, None)
        self.check(row, 8, None)
        self.check(row, 9, [1, 2])
        self.check(row, 16, [4])
        self.check(row, 17, [])
        self.check(row, 18, [])
        self.check(row, 10 ** 30, [])

    def test_a_row_of_one_number(self):
        self.check([5], 4, None)
        self.check([5], 5, [])
        self.check([5], 6, [])
        self.check([0], -1, None)
        self.check([0], 0, [])

    def test_noughts_lengthen_a_piece(self):
        self.check([5, 0, 5], 5, [2])
        self.check([5, 0, 0, 5, 0], 5, [3])
        self.check([0, 0, 5, 5], 5, [3])
        self.check([0, 0, 0], 0, [])
        self.check([0, 0, 0], -1, None)
        self.check([0, 1, 0], 0, None)
        self.check([0, 1, 0, 1, 0], 1, [3])

    def test_all_cuts_of_short_rows(self):
        for row in small_rows((0, 1, 3), 5) + [[2, 9, 4, 0, 4, 9, 2], [6, 6, 0, 0, 6, 6, 1]]:
            for bound in range(-1, sum(row) + 2):
                self.assertEqual(long_cut(row, bound), slow_long_cut(row, bound), (row, bound))
                self.assertEqual(fewest_pieces(row, bound), slow_fewest(row, bound), (row, bound))

    def test_long_rows(self):
        self.check([1] * 120, 1, list(range(1, 120)))
        self.check([10 ** 12] * 120, 10 ** 12 - 1, None)
        self.check([10 ** 12] * 120, 3 * 10 ** 12 - 1, list(range(2, 120, 2)))
        self.check([10 ** 12] * 120, 120 * 10 ** 12 - 1, [119])
        self.check([10 ** 12] * 120, 120 * 10 ** 12, [])
        self.check([10 ** 12] * 120, 10 ** 30, [])

    def test_what_is_told_is_the_askers_own(self):
        for bound in (-1, 4, 5, 9, 14, 10 ** 30):
            for function in (long_cut, fewest_pieces):
                with self.subTest(bound=bound, function=function.__name__):
                    check_own(self, function, lambda: [[5, 0, 5, 4], bound])


class LeastGreatest(unittest.TestCase):
    def test_ordinary_rows(self):
        for row, many, expected in (
            ([7, 2, 5, 10, 8], 1, (32, [])),
            ([7, 2, 5, 10, 8], 2, (18, [3])),
            ([7, 2, 5, 10, 8], 3, (14, [3, 4])),
            ([7, 2, 5, 10, 8], 5, (10, [1, 2, 3, 4])),
            ([5], 1, (5, [])),
            ([0], 1, (0, [])),
        ):
            with self.subTest(row=row, many=many):
                self.assertEqual(least_greatest(row, many), expected)

    def test_the_first_cut_is_told(self):
        for row, many, expected in (
            ([0, 0, 0, 0], 3, (0, [1, 2])),
            ([5, 0, 5], 2, (5, [1])),
            ([9, 1, 1, 1, 1], 3, (9, [1, 2])),
            ([1, 1, 1, 1, 9], 3, (9, [1, 4])),
            ([1, 1, 1, 1, 9], 4, (9, [1, 2, 4])),
            ([2, 2, 2, 2], 3, (4, [1, 2])),
            ([2, 2, 2, 2, 2], 3, (4, [1, 3])),
        ):
            with self.subTest(row=row, many=many):
                self.assertEqual(least_greatest(row, many), expected)

    def test_all_cuts_of_short_rows(self):
        more = [some_numbers(seed, 8, limit) for seed in range(10) for limit in (2, 9, 10 ** 12)]
        for row in small_rows((0, 1, 2), 6) + small_rows((0, 3, 4, 9), 4) + more:
            for many in range(1, len(row) + 1):
                self.assertEqual(least_greatest(row, many), slow_least_greatest(row, many), (row, many))

    def test_kinds_of_what_is_told(self):
        told = least_greatest([4, 4, 4], 2)
        self.assertIs(type(told), tuple)
        self.assertEqual(len(told), 2)
        self.assertIs(type(told[0]), int)
        self.assertIs(type(told[1]), list)

    def test_rows_of_120_numbers(self):
        for row in rows_of_120():
            table = table_of(row, max, min)
            for many in range(1, 121):
                bound, cut = least_greatest(row, many)
                with self.subTest(many=many):
                    self.assertEqual(bound, table[many][0])
                    self.assertTrue(is_cut(row, cut))
                    self.assertEqual(max(slow_sums(row, cut)), bound)
                    self.assertEqual(cut, first_cut_by_table(row, many, table, max))

    def test_what_is_told_is_the_askers_own(self):
        for many in (1, 2, 3, 4):
            with self.subTest(many=many):
                check_own(self, least_greatest, lambda: [[5, 0, 5, 4], many])


class SoManyPieces(unittest.TestCase):
    def test_what_is_no_number_of_pieces(self):
        check_no_many(self, least_greatest, [])

    def test_numbers_at_the_edges(self):
        for row in ([5], [0, 0], [3, 1, 2], [1] * 120):
            self.assertEqual(least_greatest(row, 1), (sum(row), []))
            self.assertEqual(least_greatest(row, len(row)), (max(row), list(range(1, len(row)))))


if __name__ == "__main__":
    unittest.main()
