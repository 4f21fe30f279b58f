"""Points 1, 2, 7, 26 and 27: rows closed to rings."""

import unittest
from functools import lru_cache
from itertools import combinations

from piecebounds.rings import ring_least_greatest, ring_sums
from tests.things import check_no_many, check_own, small_rows, some_numbers, table_of


def slow_ring_sums(row, places):
    """The sums, number by number round the ring from the first place on."""
    sums = []
    for step in range(len(row)):
        place = (places[0] + step) % len(row)
        if place in places:
            sums.append(0)
        sums[-1] += row[place]
    return sums


def all_places(length, many):
    return [list(places) for places in combinations(range(length), many)]


def slow_ring(row, many):
    return min((max(slow_ring_sums(row, places)), places) for places in all_places(len(row), many))


def first_places(row, many, bound):
    """The first places with all sums of at most the bound, found place by place."""
    length = len(row)

    @lru_cache(maxsize=None)
    def fits(first, begin, left):
        """Whether so many pieces can go from the begin over the end to the first place."""
        if left == 1:
            return sum(row[begin:]) + sum(row[:first]) <= bound
        return any(sum(row[begin:end]) <= bound and fits(first, end, left - 1) for end in range(begin + 1, length))

    first = next(place for place in range(length) if fits(place, place, many))
    places = [first]
    for left in range(many - 1, 0, -1):
        places.append(next(end for end in range(places[-1] + 1, length)
                           if sum(row[places[-1]:end]) <= bound and fits(first, end, left)))
    return places


class RingSums(unittest.TestCase):
    row = [3, 0, 5, 7]

    def test_ordinary_places(self):
        for places, expected in (
            ([0, 2], [3, 12]), ([1, 2], [0, 15]), ([1, 3], [5, 10]), ([2, 3], [5, 10]), ([0, 3], [8, 7]),
            ([0, 1, 2], [3, 0, 12]), ([1, 2, 3], [0, 5, 10]), ([0, 1, 3], [3, 5, 7]),
        ):
            with self.subTest(places=places):
                self.assertEqual(ring_sums(self.row, places), expected)

    def test_one_place(self):
        for place in range(4):
            self.assertEqual(ring_sums(self.row, [place]), [15])
        self.assertEqual(ring_sums([8], [0]), [8])

    def test_all_places(self):
        self.assertEqual(ring_sums(self.row, [0, 1, 2, 3]), self.row)

    def test_the_last_piece_goes_over_the_end(self):
        self.assertEqual(ring_sums([1, 10, 100, 1000, 10000], [2, 4]), [1100, 10011])
        self.assertEqual(ring_sums([1, 10, 100, 1000, 10000], [3, 4]), [1000, 10111])

    def test_all_places_of_short_rings(self):
        for row in small_rows((0, 1, 5), 5) + [[1, 2, 4, 8, 16, 32, 64]]:
            for many in range(1, len(row) + 1):
                for places in all_places(len(row), many):
                    self.assertEqual(ring_sums(row, places), slow_ring_sums(row, places), (row, places))

    def test_what_is_told_is_the_askers_own(self):
        for places in ([0], [2], [0, 2], [1, 3], [0, 1, 2, 3]):
            with self.subTest(places=places):
                self.assertIs(type(ring_sums(self.row, places)), list)
                check_own(self, ring_sums, lambda: [list(self.row), list(places)])


class RingLeastGreatest(unittest.TestCase):
    def test_ordinary_rings(self):
        for row, many, expected in (
            ([7, 2, 5, 10, 8], 1, (32, [0])),
            ([7, 2, 5, 10, 8], 2, (17, [1, 4])),
            ([7, 2, 5, 10, 8], 3, (14, [0, 3, 4])),
            ([7, 2, 5, 10, 8], 4, (10, [0, 1, 3, 4])),
            ([7, 2, 5, 10, 8], 5, (10, [0, 1, 2, 3, 4])),
            ([5], 1, (5, [0])),
            ([0], 1, (0, [0])),
            ([3, 9, 9, 3], 3, (9, [1, 2, 3])),
        ):
            with self.subTest(row=row, many=many):
                self.assertEqual(ring_least_greatest(row, many), expected)

    def test_the_first_places_are_told(self):
        for row, many, expected in (
            ([0, 0, 0, 0], 1, (0, [0])),
            ([0, 0, 0, 0], 2, (0, [0, 1])),
            ([0, 0, 0, 0], 3, (0, [0, 1, 2])),
            ([2, 2, 2, 2], 2, (4, [0, 2])),
            ([2, 2, 2, 2, 2], 3, (4, [0, 1, 3])),
            ([5, 0, 5, 0], 2, (5, [0, 1])),
            ([0, 5, 0, 5], 2, (5, [0, 2])),
        ):
            with self.subTest(row=row, many=many):
                self.assertEqual(ring_least_greatest(row, many), expected)

    def test_all_places_of_short_rings(self):
        more = [some_numbers(seed, 8, limit) for seed in range(10) for limit in (2, 9, 10 ** 12)]
        for row in small_rows((0, 1, 2), 6) + small_rows((0, 3, 4, 9), 4) + more:
            for many in range(1, len(row) + 1):
                self.assertEqual(ring_least_greatest(row, many), slow_ring(row, many), (row, many))

    def test_rings_of_40_numbers(self):
        noughts = [0 if place % 3 else number for place, number in enumerate(some_numbers(3, 40, 10 ** 12))]
        for row in (some_numbers(1, 40, 10 ** 12), noughts, some_numbers(2, 40, 3), [10 ** 12] * 40):
            tables = [table_of(row[turn:] + row[:turn], max, min) for turn in range(40)]
            for many in (1, 2, 3, 7, 13, 20, 33, 39, 40):
                bound, places = ring_least_greatest(row, many)
                with self.subTest(row=row[:3], many=many):
                    self.assertEqual(bound, min(table[many][0] for table in tables))
                    self.assertEqual(max(slow_ring_sums(row, places)), bound)
                    self.assertEqual(places, first_places(row, many, bound))

    def test_kinds_of_what_is_told(self):
        told = ring_least_greatest([4, 4, 4], 2)
        self.assertIs(type(told), tuple)
        self.assertEqual([type(part) for part in told], [int, list])

    def test_what_is_told_is_the_askers_own(self):
        for many in (1, 2, 3, 4):
            with self.subTest(many=many):
                check_own(self, ring_least_greatest, lambda: [[5, 0, 5, 4], many])

    def test_what_is_no_number_of_pieces(self):
        check_no_many(self, ring_least_greatest, [])


if __name__ == "__main__":
    unittest.main()
