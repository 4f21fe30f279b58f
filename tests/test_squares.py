"""Points 1, 2, 7, 16, 17 and 18: evenness, and the least of it."""

import unittest

from piecebounds.rows import is_cut
from piecebounds.squares import all_even, evenness, most_even
from tests.things import (all_cuts_of, check_no_many, check_own, even_ends, evens_by_table, first_even_by_table,
                          rows_for_squares, rows_of_120, slow_evenness, slow_most_even, small_rows, some_numbers)


class Evenness(unittest.TestCase):
    def test_ordinary_cuts(self):
        row = [3, 0, 5, 7]
        for cut, expected in (([], 225), ([1], 153), ([2], 153), ([3], 113), ([1, 3], 83), ([1, 2, 3], 83)):
            with self.subTest(cut=cut):
                self.assertEqual(evenness(row, cut), expected)

    def test_a_row_of_one_number(self):
        self.assertEqual(evenness([8], []), 64)
        self.assertEqual(evenness([0], []), 0)
        self.assertEqual(evenness([10 ** 12], []), 10 ** 24)

    def test_all_cuts_of_short_rows(self):
        for row in small_rows((0, 1, 5), 5):
            for cut in all_cuts_of(len(row)):
                self.assertEqual(evenness(row, cut), slow_evenness(row, cut), (row, cut))

    def test_long_rows_of_great_numbers(self):
        self.assertEqual(evenness([10 ** 12] * 120, []), 14400 * 10 ** 24)
        self.assertEqual(evenness([10 ** 12] * 120, list(range(1, 120))), 120 * 10 ** 24)
        row = some_numbers(5, 120, 10 ** 12)
        for cut in ([], [60], list(range(1, 120)), list(range(7, 120, 7))):
            with self.subTest(places=len(cut)):
                self.assertEqual(evenness(row, cut), slow_evenness(row, cut))

    def test_row_and_cut_stay_as_they_are(self):
        for cut in ([], [1], [1, 3], [1, 2, 3]):
            with self.subTest(cut=cut):
                check_own(self, evenness, lambda: [[5, 0, 5, 4], list(cut)])


class MostEven(unittest.TestCase):
    def test_ordinary_rows(self):
        for row, many, expected in (
            ([7, 2, 5, 10, 8], 1, (1024, [])),
            ([7, 2, 5, 10, 8], 2, (520, [3])),
            ([7, 2, 5, 10, 8], 3, (360, [3, 4])),
            ([7, 2, 5, 10, 8], 4, (262, [1, 3, 4])),
            ([7, 2, 5, 10, 8], 5, (242, [1, 2, 3, 4])),
            ([5], 1, (25, [])),
            ([0], 1, (0, [])),
        ):
            with self.subTest(row=row, many=many):
                self.assertEqual(most_even(row, many), expected)

    def test_the_first_cut_is_told(self):
        for row, many, expected in (
            ([0, 0, 0, 0], 3, (0, [1, 2])),
            ([5, 0, 5], 2, (50, [1])),
            ([5, 0, 0, 5], 3, (50, [1, 2])),
            ([2, 2, 2], 2, (20, [1])),
            ([2, 2, 2, 2], 3, (24, [1, 2])),
            ([2, 2, 2, 2, 2], 3, (36, [1, 3])),
            ([1, 1, 50, 1, 1], 3, (2508, [2, 3])),
            ([50, 1, 1, 1, 1], 3, (2508, [1, 3])),
        ):
            with self.subTest(row=row, many=many):
                self.assertEqual(most_even(row, many), expected)

    def test_all_cuts_of_short_rows(self):
        for row in rows_for_squares():
            for many in range(1, len(row) + 1):
                self.assertEqual(most_even(row, many), slow_most_even(row, many), (row, many))

    def test_kinds_of_what_is_told(self):
        told = most_even([4, 4, 4], 2)
        self.assertIs(type(told), tuple)
        self.assertEqual(len(told), 2)
        self.assertIs(type(told[0]), int)
        self.assertIs(type(told[1]), list)

    def test_rows_of_120_numbers(self):
        for row in rows_of_120():
            evens = evens_by_table(row)
            turned = even_ends(row[::-1])
            for many in [1, 2, 3, 4, 7, 11, 20, 37, 59, 60, 61, 83, 100, 117, 118, 119, 120]:
                even, cut = most_even(row, many)
                with self.subTest(many=many):
                    self.assertEqual(even, evens[many - 1])
                    self.assertTrue(is_cut(row, cut))
                    self.assertEqual(slow_evenness(row, cut), even)
                    self.assertEqual(cut, first_even_by_table(row, many, turned))

    def test_what_is_told_is_the_askers_own(self):
        for many in (1, 2, 3, 4):
            with self.subTest(many=many):
                check_own(self, most_even, lambda: [[5, 0, 5, 4], many])

    def test_what_is_no_number_of_pieces(self):
        check_no_many(self, most_even, [])

    def test_numbers_of_pieces_at_the_edges(self):
        for row in ([5], [0, 0], [3, 1, 2], [1] * 120):
            self.assertEqual(most_even(row, 1), (sum(row) ** 2, []))
            self.assertEqual(most_even(row, len(row)), (sum(n * n for n in row), list(range(1, len(row)))))


class AllEven(unittest.TestCase):
    def check_steps(self, evens):
        steps = [before - even for before, even in zip(evens, evens[1:])]
        self.assertTrue(all(step >= 0 for step in steps))
        self.assertEqual(steps, sorted(steps, reverse=True))

    def test_ordinary_rows(self):
        for row, expected in (
            ([7, 2, 5, 10, 8], [1024, 520, 360, 262, 242]), ([5], [25]), ([0], [0]), ([0, 0, 0], [0, 0, 0]),
            ([5, 0, 5], [100, 50, 50]), ([2, 2, 2, 2], [64, 32, 24, 16]),
        ):
            with self.subTest(row=row):
                self.assertEqual(all_even(row), expected)
                self.assertIs(type(all_even(row)), list)

    def test_each_is_the_least_of_so_many_pieces(self):
        for row in rows_for_squares():
            evens = all_even(row)
            self.assertEqual(evens, [slow_most_even(row, many)[0] for many in range(1, len(row) + 1)], row)
            self.assertEqual(evens, [most_even(row, many)[0] for many in range(1, len(row) + 1)], row)
            self.check_steps(evens)

    def test_rows_of_120_numbers(self):
        for row in rows_of_120():
            evens = all_even(row)
            self.assertEqual(len(evens), 120)
            self.assertEqual(evens, evens_by_table(row))
            self.check_steps(evens)

    def test_what_is_told_is_the_askers_own(self):
        for row in ([5], [5, 0, 5, 4], [0, 0]):
            with self.subTest(row=row):
                check_own(self, all_even, lambda: [list(row)])


if __name__ == "__main__":
    unittest.main()
