"""Points 1, 7 and 15: sums as near one another as can be."""

import unittest

from piecebounds.greatest import least_greatest
from piecebounds.least import greatest_least
from piecebounds.near import least_spread
from piecebounds.rows import is_cut
from tests.things import check_no_many, check_own, cuts_into, slow_ahead, slow_sums, small_rows, some_numbers


def spread_of(row, cut):
    sums = slow_sums(row, cut)
    return max(sums) - min(sums)


def slow_least_spread(row, many):
    return min((spread_of(row, cut), cut) for cut in cuts_into(len(row), many))


def first_within(row, many, low, high):
    """The first cut into so many pieces with all sums from low to high, or None, by a table."""
    length = len(row)
    ahead = slow_ahead(row)
    # found[begin]: the first such cut of the row from there on, its end too.
    found = [None] * length + [[]]
    for left in range(many):
        found = [min(([end] + found[end] for end in range(begin + 1, length + 1)
                      if found[end] is not None and low <= ahead[end] - ahead[begin] <= high), default=None)
                 for begin in range(length)] + [None]
    return None if found[0] is None else found[0][:-1]


def least_spread_by_table(row, many):
    """For each least sum the cuts with the least greatest one, and of all these the best."""
    sums = sorted({sum(row[begin:end]) for end in range(1, len(row) + 1) for begin in range(end)})
    best = None
    for low in sums:
        at, behind = sums.index(low), len(sums)
        while at < behind:
            middle = (at + behind) // 2
            if first_within(row, many, low, sums[middle]) is None:
                at = middle + 1
            else:
                behind = middle
        if at < len(sums):
            one = (sums[at] - low, first_within(row, many, low, sums[at]))
            best = one if best is None else min(best, one)
    return best


class LeastSpread(unittest.TestCase):
    def test_ordinary_rows(self):
        for row, many, expected in (
            ([7, 2, 5, 10, 8], 1, (0, [])),
            ([7, 2, 5, 10, 8], 2, (4, [3])),
            ([7, 2, 5, 10, 8], 3, (6, [3, 4])),
            ([7, 2, 5, 10, 8], 4, (3, [1, 3, 4])),
            ([7, 2, 5, 10, 8], 5, (8, [1, 2, 3, 4])),
            ([5], 1, (0, [])),
            ([0], 1, (0, [])),
            ([3, 3, 3, 3], 2, (0, [2])),
            ([3, 3, 3, 3], 3, (3, [1, 2])),
        ):
            with self.subTest(row=row, many=many):
                self.assertEqual(least_spread(row, many), expected)

    def test_the_first_cut_is_told(self):
        for row, many, expected in (
            ([0, 0, 0, 0], 3, (0, [1, 2])),
            ([5, 0, 0, 5], 2, (0, [1])),
            ([0, 5, 0, 0, 5, 0], 2, (0, [2])),
            ([2, 2, 2, 2, 2], 3, (2, [1, 3])),
            ([2, 2, 2], 2, (2, [1])),
        ):
            with self.subTest(row=row, many=many):
                self.assertEqual(least_spread(row, many), expected)

    def test_the_best_bounds_of_their_own_need_not_have_it(self):
        # The sums here are 5 3 5 4 8 8 3 9, yet 4 can be the least one and 8 the greatest one.
        row = [5, 3, 1, 4, 4, 5, 3, 1, 7, 3, 7, 2]
        self.assertEqual(greatest_least(row, 8)[0], 4)
        self.assertEqual(least_greatest(row, 8)[0], 8)
        self.assertEqual(least_spread(row, 8), (6, [1, 2, 4, 5, 7, 9, 10]))
        for many in range(1, len(row) + 1):
            with self.subTest(many=many):
                self.assertEqual(least_spread(row, many), slow_least_spread(row, many))

    def test_all_cuts_of_short_rows(self):
        more = [some_numbers(seed, length, limit) for seed in range(8) for length in (7, 9)
                for limit in (1, 2, 9, 10 ** 12)]
        like = [[value] * length for value in (0, 1, 10 ** 12) for length in range(1, 10)]
        for row in small_rows((0, 1, 2), 6) + small_rows((0, 3, 4, 9), 4) + like + more:
            for many in range(1, len(row) + 1):
                self.assertEqual(least_spread(row, many), slow_least_spread(row, many), (row, many))

    def test_all_cuts_of_rows_of_24_numbers_into_few_and_many_pieces(self):
        for row in (some_numbers(1, 24, 10 ** 12), some_numbers(2, 24, 3), [7] * 24):
            for many in (1, 2, 3, 4, 21, 22, 23, 24):
                with self.subTest(row=row[:5], many=many):
                    self.assertEqual(least_spread(row, many), slow_least_spread(row, many))

    def test_rows_of_24_numbers(self):
        noughts = [0 if place % 3 else number for place, number in enumerate(some_numbers(6, 24, 50))]
        for row in (some_numbers(5, 24, 4), noughts, [10 ** 12] * 24):
            for many in range(1, 25):
                spread, cut = least_spread(row, many)
                with self.subTest(row=row[:5], many=many):
                    self.assertTrue(is_cut(row, cut))
                    self.assertEqual(spread_of(row, cut), spread)
                    self.assertEqual((spread, cut), least_spread_by_table(row, many))

    def test_great_numbers_in_24_places(self):
        row = some_numbers(9, 24, 10 ** 12)
        for many in (5, 12, 18):
            with self.subTest(many=many):
                self.assertEqual(least_spread(row, many), least_spread_by_table(row, many))

    def test_kinds_of_what_is_told(self):
        told = least_spread([4, 4, 4], 2)
        self.assertIs(type(told), tuple)
        self.assertEqual(len(told), 2)
        self.assertIs(type(told[0]), int)
        self.assertIs(type(told[1]), list)

    def test_what_is_told_is_the_askers_own(self):
        for many in (1, 2, 3, 4):
            with self.subTest(many=many):
                check_own(self, least_spread, lambda: [[5, 0, 5, 4], many])

    def test_what_is_no_number_of_pieces(self):
        check_no_many(self, least_spread, [])

    def test_numbers_of_pieces_at_the_edges(self):
        for row in ([5], [0, 0], [3, 1, 2], [1] * 24):
            self.assertEqual(least_spread(row, 1), (0, []))
            self.assertEqual(least_spread(row, len(row)), (max(row) - min(row), list(range(1, len(row)))))


if __name__ == "__main__":
    unittest.main()
