"""Points 1, 2, 7, 19, 20 and 21: cuts at a price for each piece."""

import unittest

from piecebounds.rows import is_cut
from piecebounds.squares import most_even
from piecebounds.steep import at_price, prices
from tests.things import (all_cuts_of, check_no_many, check_own, even_ends, evens_by_table, first_even_by_table,
                          rows_for_squares, rows_of_120, slow_evenness, slow_most_even, small_rows)

FAR = 10 ** 30


def costs_of(row):
    """All cuts of the row, each with its evenness, its number of pieces and itself."""
    return [(slow_evenness(row, cut), len(cut) + 1, cut) for cut in all_cuts_of(len(row))]


def slow_at_price(costs, price):
    return min((even + price * many, many, cut) for even, many, cut in costs)


def cheapest(evens, price):
    """All numbers of pieces that have the least cost."""
    costs = [even + price * many for many, even in enumerate(evens, 1)]
    return [many for many, cost in enumerate(costs, 1) if cost == min(costs)]


def prices_for(evens):
    """0, 1, each step from some pieces to one more and those beside it, and prices far off."""
    steps = {before - even for before, even in zip(evens, evens[1:])}
    near = {step + more for step in steps for more in (-1, 0, 1)}
    return sorted(price for price in near | {0, 1, 2, FAR} if price >= 0)


class AtPrice(unittest.TestCase):
    def test_ordinary_rows(self):
        row = [7, 2, 5, 10, 8]
        for price, expected in (
            (0, (242, 5, [1, 2, 3, 4])),
            (1, (247, 5, [1, 2, 3, 4])),
            (19, (337, 5, [1, 2, 3, 4])),
            (20, (342, 4, [1, 3, 4])),
            (21, (346, 4, [1, 3, 4])),
            (97, (650, 4, [1, 3, 4])),
            (98, (654, 3, [3, 4])),
            (160, (840, 2, [3])),
            (503, (1526, 2, [3])),
            (504, (1528, 1, [])),
            (505, (1529, 1, [])),
            (FAR, (1024 + FAR, 1, [])),
        ):
            with self.subTest(price=price):
                self.assertEqual(at_price(row, price), expected)

    def test_a_row_of_one_number(self):
        for price in (0, 1, FAR):
            self.assertEqual(at_price([5], price), (25 + price, 1, []))
            self.assertEqual(at_price([0], price), (price, 1, []))

    def test_the_fewest_pieces_and_the_first_cut_are_told(self):
        for row, price, expected in (
            ([0, 0, 0], 0, (0, 1, [])),
            ([5, 0, 5], 0, (50, 2, [1])),
            ([0, 5, 0, 0, 5, 0], 0, (50, 2, [2])),
            ([2, 2, 2], 8, (36, 2, [1])),
            ([2, 2], 8, (24, 1, [])),
            ([2, 2, 2, 2], 8, (48, 2, [2])),
        ):
            with self.subTest(row=row, price=price):
                self.assertEqual(at_price(row, price), expected)

    def test_all_cuts_of_short_rows(self):
        for row in rows_for_squares():
            costs = costs_of(row)
            evens = [slow_most_even(row, many)[0] for many in range(1, len(row) + 1)]
            for price in prices_for(evens):
                self.assertEqual(at_price(row, price), slow_at_price(costs, price), (row, price))

    def test_rows_of_120_numbers(self):
        for row in rows_of_120():
            evens = evens_by_table(row)
            turned = even_ends(row[::-1])
            near = prices_for(evens)
            for price in near[:6] + near[6:-3:23] + near[-3:]:
                cost, many, cut = at_price(row, price)
                with self.subTest(price=price):
                    self.assertEqual(many, cheapest(evens, price)[0])
                    self.assertEqual(cost, evens[many - 1] + price * many)
                    self.assertTrue(is_cut(row, cut))
                    self.assertEqual(slow_evenness(row, cut) + price * (len(cut) + 1), cost)
                    self.assertEqual(cut, first_even_by_table(row, many, turned))
                    self.assertEqual(most_even(row, many), (cost - price * many, cut))

    def test_kinds_of_what_is_told(self):
        told = at_price([4, 4, 4], 3)
        self.assertIs(type(told), tuple)
        self.assertEqual([type(part) for part in told], [int, int, list])

    def test_what_is_told_is_the_askers_own(self):
        for price in (0, 1, 40, 49, 90, FAR):
            with self.subTest(price=price):
                check_own(self, at_price, lambda: [[5, 0, 5, 4], price])


class Prices(unittest.TestCase):
    def test_ordinary_rows(self):
        for row, expected in (
            ([7, 2, 5, 10, 8], [(504, None), (160, 504), (98, 160), (20, 98), (0, 20)]),
            ([5], [(0, None)]),
            ([0], [(0, None)]),
            ([0, 0, 0], [(0, None), (0, 0), (0, 0)]),
            ([5, 0, 5], [(50, None), (0, 50), (0, 0)]),
            ([2, 2, 2, 2], [(32, None), (8, 32), (8, 8), (0, 8)]),
        ):
            with self.subTest(row=row):
                self.assertEqual([prices(row, many) for many in range(1, len(row) + 1)], expected)

    def check_range(self, evens, many, low, high, price):
        """So many pieces have the least cost at the price just if it is in the range."""
        inside = low <= price and (high is None or price <= high)
        self.assertEqual(many in cheapest(evens, price), inside, (evens, many, price))

    def test_each_price_of_short_rows(self):
        for row in small_rows((0, 1, 2), 4) + [[3, 1, 2, 0, 1], [1, 1, 9, 1]]:
            evens = [slow_most_even(row, many)[0] for many in range(1, len(row) + 1)]
            for many in range(1, len(row) + 1):
                low, high = prices(row, many)
                for price in range(evens[0] + 2):
                    self.check_range(evens, many, low, high, price)

    def test_prices_at_and_beside_the_steps(self):
        for row in rows_for_squares():
            evens = [slow_most_even(row, many)[0] for many in range(1, len(row) + 1)]
            for many in range(1, len(row) + 1):
                low, high = prices(row, many)
                for price in prices_for(evens):
                    self.check_range(evens, many, low, high, price)

    def check_whole(self, row):
        """The ranges go from no end down to 0, and where one ends the next one begins."""
        ranges = [prices(row, many) for many in range(1, len(row) + 1)]
        self.assertIsNone(ranges[0][1])
        self.assertEqual(ranges[-1][0], 0)
        for (low, high), (lower, higher) in zip(ranges, ranges[1:]):
            self.assertEqual(low, higher)
        for low, high in ranges:
            self.assertIs(type(low), int)
            self.assertGreaterEqual(low, 0)
            self.assertTrue(high is None or low <= high)

    def test_the_ranges_meet(self):
        for row in rows_for_squares():
            self.check_whole(row)

    def test_rows_of_120_numbers(self):
        for row in rows_of_120():
            evens = evens_by_table(row)
            for many in (1, 2, 3, 17, 40, 60, 80, 118, 119, 120):
                low, high = prices(row, many)
                for price in (low - 1, low, low + 1, FAR) if high is None else (low - 1, low, high, high + 1):
                    if price >= 0:
                        self.check_range(evens, many, low, high, price)

    def test_the_ranges_of_120_numbers_meet(self):
        self.check_whole(rows_of_120()[1])

    def test_at_its_prices_so_many_pieces_cost_the_least(self):
        for row in ([7, 2, 5, 10, 8], [5, 0, 5, 4], [2, 2, 2, 2]):
            for many in range(1, len(row) + 1):
                for price in prices(row, many):
                    if price is not None:
                        with self.subTest(row=row, many=many, price=price):
                            self.assertEqual(at_price(row, price)[0], most_even(row, many)[0] + price * many)

    def test_the_row_stays_as_it_is(self):
        for many in (1, 2, 3, 4):
            with self.subTest(many=many):
                check_own(self, prices, lambda: [[5, 0, 5, 4], many])
                self.assertIs(type(prices([5, 0, 5, 4], many)), tuple)

    def test_what_is_no_number_of_pieces(self):
        check_no_many(self, prices, [])


if __name__ == "__main__":
    unittest.main()
