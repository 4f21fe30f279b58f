"""Points 1, 3, 4 and 5: rows, cuts, pieces and sums."""

import unittest
from copy import deepcopy
from itertools import product

from piecebounds.rows import is_cut, is_row, pieces, sums_of
from tests.things import (all_cuts_of, check_own, deep_things, no_lists, no_numbers, slow_sums,
                          small_rows, some_numbers)


class IsRow(unittest.TestCase):
    def test_rows(self):
        rows = [[0], [7], [0, 0, 0], [3, 1, 2], [1, 1], [5, 0], [0, 5], [10 ** 12], [10 ** 12 + 1, 10 ** 40],
                [0] * 120, [1] * 121, list(range(5000)), [10 ** 500, 0]]
        for row in rows:
            with self.subTest(length=len(row)):
                self.assertIs(is_row(row), True)

    def test_the_empty_list_is_none(self):
        self.assertIs(is_row([]), False)

    def test_a_number_below_0_anywhere(self):
        for wrong in (-1, -10 ** 30):
            for row in ([wrong], [wrong, 1, 2], [1, wrong, 2], [1, 2, wrong], [1] * 200 + [wrong]):
                with self.subTest(wrong=wrong, length=len(row)):
                    self.assertIs(is_row(row), False)

    def test_what_is_no_number_anywhere(self):
        for label, wrong in no_numbers():
            for row in ([wrong], [wrong, 1], [1, wrong], [0, wrong, 0], [wrong, wrong]):
                with self.subTest(wrong=label, length=len(row)):
                    self.assertIs(is_row(row), False)

    def test_what_is_no_list(self):
        for label, thing in no_lists():
            with self.subTest(thing=label):
                self.assertIs(is_row(thing), False)

    def test_things_deep_within_one_another(self):
        for label, thing in deep_things():
            with self.subTest(thing=label):
                self.assertIs(is_row(thing), False)

    def test_the_thing_stays_as_it_is(self):
        for thing in ([3, 0, 1], [], [1, -1], [True, [2]]):
            with self.subTest(thing=thing):
                check_own(self, is_row, lambda: [deepcopy(thing)])


class IsCut(unittest.TestCase):
    def test_the_empty_list_cuts_every_row(self):
        for row in ([5], [0, 0], [1] * 300):
            self.assertIs(is_cut(row, []), True)

    def test_all_places(self):
        for length in (1, 2, 3, 120, 121, 3000):
            self.assertIs(is_cut([1] * length, list(range(1, length))), True)

    def test_one_place(self):
        row = [4, 4, 4, 4]
        for place in range(-6, 10):
            with self.subTest(place=place):
                self.assertIs(is_cut(row, [place]), 1 <= place <= 3)

    def test_places_at_the_edges(self):
        row = [1, 2, 3, 4, 5]
        for cut in ([1], [4], [1, 4], [2, 3], [1, 2, 3, 4]):
            with self.subTest(cut=cut):
                self.assertIs(is_cut(row, cut), True)
        for wrong in ([0], [5], [6], [-1], [0, 1], [4, 5], [1, 6], [-1, 2], [1, 1], [1, 2, 2], [4, 4], [2, 1],
                      [1, 3, 2], [4, 3, 2, 1], [0, 1, 2, 3, 4], [1, 2, 3, 4, 5], [10 ** 30], [-10 ** 30]):
            with self.subTest(wrong=wrong):
                self.assertIs(is_cut(row, wrong), False)

    def test_a_row_of_one_number_has_one_cut(self):
        for wrong in ([0], [1], [2], [-1]):
            self.assertIs(is_cut([9], wrong), False)

    def test_all_short_lists_of_places(self):
        for length in range(1, 5):
            cuts = all_cuts_of(length)
            for many in range(4):
                for places in product(range(-1, length + 2), repeat=many):
                    with self.subTest(length=length, places=places):
                        self.assertIs(is_cut([1] * length, list(places)), list(places) in cuts)

    def test_what_is_no_number_among_the_places(self):
        row = [1] * 6
        for label, wrong in no_numbers():
            for thing in ([wrong], [wrong, 2], [1, wrong], [1, wrong, 3]):
                with self.subTest(wrong=label, length=len(thing)):
                    self.assertIs(is_cut(row, thing), False)

    def test_what_is_no_list(self):
        for label, thing in no_lists():
            with self.subTest(thing=label):
                self.assertIs(is_cut([1] * 6, thing), False)

    def test_things_deep_within_one_another(self):
        for label, thing in deep_things():
            with self.subTest(thing=label):
                self.assertIs(is_cut([1] * 6, thing), False)

    def test_row_and_thing_stay_as_they_are(self):
        for thing in ([], [1], [2, 1], [1, 2], [0, 7]):
            with self.subTest(thing=thing):
                check_own(self, is_cut, lambda: [[5, 0, 5], list(thing)])


class Pieces(unittest.TestCase):
    def test_pieces(self):
        row = [3, 0, 5, 7]
        for cut, expected in (
            ([], [[3, 0, 5, 7]]),
            ([1], [[3], [0, 5, 7]]),
            ([3], [[3, 0, 5], [7]]),
            ([1, 3], [[3], [0, 5], [7]]),
            ([1, 2, 3], [[3], [0], [5], [7]]),
        ):
            with self.subTest(cut=cut):
                self.assertEqual(pieces(row, cut), expected)

    def test_sums(self):
        row = [3, 0, 5, 7]
        for cut, expected in (([], [15]), ([1], [3, 12]), ([3], [8, 7]), ([1, 3], [3, 5, 7]), ([1, 2, 3], row)):
            with self.subTest(cut=cut):
                self.assertEqual(sums_of(row, cut), expected)

    def test_a_row_of_one_number(self):
        self.assertEqual(pieces([8], []), [[8]])
        self.assertEqual(sums_of([8], []), [8])

    def test_all_cuts_of_short_rows(self):
        for row in small_rows((0, 1, 5), 5):
            for cut in all_cuts_of(len(row)):
                told = pieces(row, cut)
                self.assertEqual(len(told), len(cut) + 1)
                self.assertEqual([number for piece in told for number in piece], row)
                self.assertEqual([sum(len(piece) for piece in told[:at]) for at in range(1, len(told))], cut)
                self.assertEqual(sums_of(row, cut), slow_sums(row, cut))

    def test_long_rows_of_great_numbers(self):
        row = some_numbers(5, 120, 10 ** 12)
        for cut in ([], [60], list(range(1, 120)), list(range(7, 120, 7))):
            with self.subTest(places=len(cut)):
                self.assertEqual(sums_of(row, cut), slow_sums(row, cut))
                self.assertEqual([number for piece in pieces(row, cut) for number in piece], row)

    def test_told_lists_are_lists_and_the_askers_own(self):
        for cut in ([], [1], [2], [1, 2], [1, 2, 3]):
            for function in (pieces, sums_of):
                with self.subTest(cut=cut, function=function.__name__):
                    self.assertIsInstance(function([4, 4, 0, 4], cut), list)
                    check_own(self, function, lambda: [[4, 4, 0, 4], list(cut)])
        for piece in pieces([4, 4, 0, 4], [1, 3]):
            self.assertIsInstance(piece, list)


if __name__ == "__main__":
    unittest.main()
