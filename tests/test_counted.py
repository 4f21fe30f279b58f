"""Points 1, 7, 12, 13 and 14: cuts counted, and the so-manieth of them."""

import unittest
from math import comb

from piecebounds.counted import all_cuts, cut_at, cuts_between
from piecebounds.errors import NoMany, NoPlace
from piecebounds.greatest import least_greatest
from piecebounds.least import greatest_least
from piecebounds.rows import is_cut
from tests.things import (check_no_many, check_own, check_refused, cuts_into, no_manys, no_numbers, rows_of_120,
                          slow_ahead, slow_sums, small_rows, some_numbers)

FAR = 10 ** 30


def slow_between(row, many, low, high):
    """All cuts into so many pieces with all sums from low to high, as lists are ordered."""
    return [cut for cut in cuts_into(len(row), many) if all(low <= total <= high for total in slow_sums(row, cut))]


def bounds_for(row):
    """Bounds of all kinds: far off, around 0, and sums of stretches with one more and one less."""
    sums = {sum(row[begin:end]) for end in range(1, len(row) + 1) for begin in range(end)}
    near = {total + more for total in sums | {0} for more in (-1, 0, 1)}
    return [-FAR, -5] + sorted(near) + [FAR]


def table_of_ways(row, many, low, high):
    """table[taken][end]: in how many ways the row up to that end is cut into so many such pieces."""
    ahead = slow_ahead(row)
    table = [[1] + [0] * len(row)]
    for taken in range(many):
        table.append([sum(table[taken][begin] for begin in range(end) if low <= ahead[end] - ahead[begin] <= high)
                      for end in range(len(row) + 1)])
    return table


def rank_of(row, cut, low, high):
    """How many cuts with all sums from low to high are ordered ahead of this one."""
    # What the turned row has up to an end is what the row has from a place on.
    length = len(row)
    ahead = slow_ahead(row)
    table = table_of_ways(row[::-1], len(cut), low, high)
    rank = 0
    begin = 0
    for at, place in enumerate(cut):
        rank += sum(table[len(cut) - at][length - end] for end in range(begin + 1, place)
                    if low <= ahead[end] - ahead[begin] <= high)
        begin = place
    return rank


def bounds_of_120(row, many):
    """Bounds that leave more than one cut of a long row into so many pieces."""
    middle = sum(row) // many
    return [(-FAR, FAR), (middle // 2, FAR), (-1, 2 * middle), (middle // 2, 2 * middle)]


class AllCuts(unittest.TestCase):
    def test_a_row_of_one_number(self):
        self.assertEqual(all_cuts([7], 1), 1)
        self.assertEqual(all_cuts([0], 1), 1)

    def test_rows_of_few_numbers(self):
        for length in range(1, 11):
            for row in ([0] * length, [4] * length, list(range(length))):
                for many in range(1, length + 1):
                    with self.subTest(length=length, many=many):
                        self.assertEqual(all_cuts(row, many), len(cuts_into(length, many)))

    def test_rows_of_120_numbers(self):
        row = [10 ** 12] * 120
        for many in range(1, 121):
            with self.subTest(many=many):
                self.assertEqual(all_cuts(row, many), comb(119, many - 1))

    def test_one_piece_and_all_pieces(self):
        for length in (1, 2, 3, 119, 120):
            with self.subTest(length=length):
                self.assertEqual(all_cuts([1] * length, 1), 1)
                self.assertEqual(all_cuts([1] * length, length), 1)
                self.assertIs(type(all_cuts([1] * length, length)), int)

    def test_the_row_stays_as_it_is(self):
        for many in (1, 2, 3, 4):
            check_own(self, all_cuts, lambda: [[5, 0, 5, 4], many])

    def test_what_is_no_number_of_pieces(self):
        check_no_many(self, all_cuts, [])


class CutsBetween(unittest.TestCase):
    def test_ordinary_rows(self):
        for row, many, low, high, expected in (
            ([7, 2, 5, 10, 8], 2, 14, 18, 1),
            ([7, 2, 5, 10, 8], 2, 9, 23, 2),
            ([7, 2, 5, 10, 8], 3, 7, 18, 4),
            ([1, 1, 1, 1], 2, 1, 3, 3),
            ([1, 1, 1, 1], 2, 2, 2, 1),
            ([1, 1, 1, 1], 3, 2, 2, 0),
            ([0, 0, 0, 0], 3, 0, 0, 3),
            ([5, 0, 0, 5], 2, 5, 5, 3),
            ([5], 1, 5, 5, 1),
        ):
            with self.subTest(row=row, many=many, low=low, high=high):
                self.assertEqual(cuts_between(row, many, low, high), expected)

    def test_bounds_at_the_edges(self):
        row = [3, 0, 4]
        for low, high, expected in (
            (-FAR, FAR, 2), (-1, FAR, 2), (0, 7, 2), (3, 4, 2), (3, 3, 0), (4, 4, 0), (4, 3, 0), (FAR, -FAR, 0),
            (3, FAR, 2), (4, FAR, 0), (-FAR, 4, 2), (-FAR, 3, 0), (-FAR, 0, 0), (-FAR, -1, 0), (-FAR, -FAR, 0),
            (FAR, FAR, 0), (-2, -1, 0), (-1, -2, 0), (0, 0, 0), (0, -1, 0),
        ):
            with self.subTest(low=low, high=high):
                self.assertEqual(cuts_between(row, 2, low, high), expected)

    def test_noughts_at_the_bounds(self):
        self.assertEqual(cuts_between([0, 0, 0], 2, 0, 0), 2)
        self.assertEqual(cuts_between([0, 0, 0], 2, 1, 0), 0)
        self.assertEqual(cuts_between([0, 0, 0], 2, -1, -1), 0)
        self.assertEqual(cuts_between([0, 0, 0], 2, 1, 1), 0)

    def test_all_cuts_of_short_rows(self):
        more = [some_numbers(seed, 6, limit) for seed in range(3) for limit in (3, 10 ** 12)]
        for row in small_rows((0, 1, 3), 4) + [[0, 2, 2, 0, 2], [9, 4, 0, 0, 1, 6]] + more:
            bounds = bounds_for(row)
            for many in range(1, len(row) + 1):
                extremes = [(min(sums), max(sums))
                            for sums in (slow_sums(row, cut) for cut in cuts_into(len(row), many))]
                for low in bounds:
                    for high in bounds:
                        expected = sum(low <= least and greatest <= high for least, greatest in extremes)
                        self.assertEqual(cuts_between(row, many, low, high), expected, (row, many, low, high))

    def test_rows_of_120_numbers(self):
        for row in rows_of_120():
            for many in (1, 2, 3, 8, 17):
                for low, high in bounds_of_120(row, many):
                    with self.subTest(many=many, low=low, high=high):
                        table = table_of_ways(row, many, low, high)
                        self.assertEqual(cuts_between(row, many, low, high), table[many][120])

    def test_rows_of_120_like_numbers(self):
        for many in range(1, 121):
            with self.subTest(many=many):
                self.assertEqual(cuts_between([10 ** 12] * 120, many, -FAR, FAR), comb(119, many - 1))
                # With one number taken from each piece any cut of what is left will do.
                fewer = comb(119 - many, many - 1) if many <= 60 else 0
                self.assertEqual(cuts_between([1] * 120, many, 2, FAR), fewer)
                self.assertEqual(cuts_between([1] * 120, many, 120 // many, 120 // many), int(120 % many == 0))

    def test_the_row_stays_as_it_is(self):
        for many in (1, 2, 3, 4):
            for low, high in ((-FAR, FAR), (4, 9), (9, 4), (5, 5)):
                check_own(self, cuts_between, lambda: [[5, 0, 5, 4], many, low, high])

    def test_what_is_no_number_of_pieces(self):
        for low, high in ((-FAR, FAR), (0, 3), (3, 0)):
            check_no_many(self, cuts_between, [low, high])


class CutAt(unittest.TestCase):
    def test_ordinary_rows(self):
        row = [7, 2, 5, 10, 8]
        for place, cut in enumerate(([1, 2], [1, 3], [1, 4], [2, 3], [2, 4], [3, 4])):
            with self.subTest(place=place):
                self.assertEqual(cut_at(row, 3, -FAR, FAR, place), cut)
        for place, cut in enumerate(([1, 3], [1, 4], [2, 4], [3, 4])):
            with self.subTest(place=place):
                self.assertEqual(cut_at(row, 3, 7, 18, place), cut)

    def test_one_piece_and_all_pieces(self):
        for row in ([5], [0], [3, 0, 4], [1] * 120):
            self.assertEqual(cut_at(row, 1, 0, sum(row), 0), [])
            self.assertEqual(cut_at(row, len(row), 0, sum(row), 0), list(range(1, len(row))))
            check_refused(self, NoPlace, cut_at, [row, 1, 0, sum(row), 1])
            check_refused(self, NoPlace, cut_at, [row, len(row), 0, sum(row), 1])

    def test_each_cut_of_short_rows(self):
        more = [some_numbers(seed, 7, limit) for seed in range(3) for limit in (3, 10 ** 12)]
        for row in small_rows((0, 1, 3), 4) + [[0, 2, 2, 0, 2], [9, 4, 0, 0, 1, 6]] + more:
            total = sum(row)
            for low, high in ((-FAR, FAR), (0, total), (1, total // 2), (total // 4, 3 * total // 4), (-1, 3)):
                for many in range(1, len(row) + 1):
                    expected = slow_between(row, many, low, high)
                    told = [cut_at(row, many, low, high, place) for place in range(len(expected))]
                    self.assertEqual(told, expected, (row, many, low, high))
                    check_refused(self, NoPlace, cut_at, [row, many, low, high, len(expected)])

    def test_the_first_and_the_last_of_120_numbers(self):
        for row in rows_of_120():
            for many in (1, 2, 60, 119, 120):
                last = comb(119, many - 1) - 1
                with self.subTest(many=many):
                    self.assertEqual(cut_at(row, many, -FAR, FAR, 0), list(range(1, many)))
                    self.assertEqual(cut_at(row, many, -FAR, FAR, last), list(range(121 - many, 120)))
                    check_refused(self, NoPlace, cut_at, [row, many, -FAR, FAR, last + 1])

    def test_some_cuts_of_120_numbers_within_bounds(self):
        for row in rows_of_120():
            for many in (2, 5, 11):
                for low, high in bounds_of_120(row, many):
                    count = cuts_between(row, many, low, high)
                    self.assertGreater(count, 1)
                    for place in (0, 1, count // 3, count // 2, count - 1):
                        cut = cut_at(row, many, low, high, place)
                        with self.subTest(many=many, low=low, high=high, place=place):
                            self.assertTrue(is_cut(row, cut))
                            self.assertEqual(len(cut), many - 1)
                            self.assertTrue(all(low <= total <= high for total in slow_sums(row, cut)))
                            self.assertEqual(rank_of(row, cut, low, high), place)
                    check_refused(self, NoPlace, cut_at, [row, many, low, high, count])

    def test_the_first_one_is_that_of_points_8_and_11(self):
        for row in rows_of_120():
            for many in (1, 2, 7, 40, 120):
                with self.subTest(many=many):
                    bound, cut = least_greatest(row, many)
                    self.assertEqual(cut_at(row, many, -FAR, bound, 0), cut)
                    bound, cut = greatest_least(row, many)
                    self.assertEqual(cut_at(row, many, bound, FAR, 0), cut)

    def test_what_is_told_is_the_askers_own(self):
        for many in (1, 2, 3, 4):
            with self.subTest(many=many):
                check_own(self, cut_at, lambda: [[5, 0, 5, 4], many, 0, 14, 0])
                self.assertIs(type(cut_at([5, 0, 5, 4], many, 0, 14, 0)), list)


class NoSuchPlace(unittest.TestCase):
    def test_numbers_beyond_the_edges(self):
        for row, many, low, high, count in (
            ([5], 1, 5, 5, 1), ([3, 0, 4], 2, 0, 7, 2), ([1] * 6, 3, -FAR, FAR, 10), ([1] * 6, 3, 2, 2, 1),
        ):
            self.assertEqual(cuts_between(row, many, low, high), count)
            for place in (count, count + 1, -1, -count, -count - 1, FAR, -FAR):
                with self.subTest(row=row, many=many, place=place):
                    check_refused(self, NoPlace, cut_at, [row, many, low, high, place])

    def test_where_there_is_no_such_cut(self):
        for low, high in ((8, FAR), (-FAR, -1), (5, 4), (FAR, -FAR), (4, 4)):
            for place in (0, 1, -1):
                with self.subTest(low=low, high=high, place=place):
                    check_refused(self, NoPlace, cut_at, [[3, 0, 4], 2, low, high, place])

    def test_what_is_no_number(self):
        for low, high in ((-FAR, FAR), (4, 3)):
            for label, place in no_numbers():
                with self.subTest(low=low, place=label):
                    check_refused(self, NoPlace, cut_at, [[3, 0, 4], 2, low, high, place])

    def test_what_is_no_number_of_pieces(self):
        check_no_many(self, cut_at, [-FAR, FAR, 0])

    def test_no_many_comes_ahead_of_no_place(self):
        row = [3, 0, 4]
        places = no_numbers() + [("below", -1), ("beyond", 2), ("far", FAR)]
        for label, many in no_manys(row):
            for other, place in places:
                with self.subTest(many=label, place=other):
                    check_refused(self, NoMany, cut_at, [row, many, 0, 7, place])


if __name__ == "__main__":
    unittest.main()
