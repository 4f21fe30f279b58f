"""Points 1 and 30: rows and cuts as texts."""

import unittest
from itertools import product

from piecebounds.errors import NoText
from piecebounds.notes import read_row, show_cut, show_row
from tests.things import all_cuts_of, check_kind, check_own, no_numbers, rows_of_120, small_rows, some_numbers


class Written(unittest.TestCase):
    def test_rows(self):
        for row, text in (([0], "0"), ([7], "7"), ([7, 2, 5, 10, 8], "7 2 5 10 8"), ([0, 0], "0 0"),
                          ([10 ** 12, 0], "1000000000000 0")):
            with self.subTest(row=row):
                self.assertEqual(show_row(row), text)
                self.assertIs(type(show_row(row)), str)

    def test_cuts(self):
        for cut, text in (([], "-"), ([1], "1"), ([1, 3], "1 3"), ([9, 10, 119], "9 10 119")):
            with self.subTest(cut=cut):
                self.assertEqual(show_cut(cut), text)
                self.assertIs(type(show_cut(cut)), str)

    def test_long_ones(self):
        self.assertEqual(show_row([10 ** 12] * 120), "1000000000000" + " 1000000000000" * 119)
        self.assertEqual(show_cut(list(range(1, 120))), " ".join(str(place) for place in range(1, 120)))

    def test_what_is_handed_in_stays_as_it_is(self):
        for numbers in ([1], [1, 3], [4, 5, 6]):
            check_own(self, show_row, lambda: [list(numbers)])
            check_own(self, show_cut, lambda: [list(numbers)])
        check_own(self, show_cut, lambda: [[]])


class ReadBack(unittest.TestCase):
    def test_rows(self):
        for text, row in (("0", [0]), ("7", [7]), ("7 2 5 10 8", [7, 2, 5, 10, 8]), ("0 0 0", [0, 0, 0]),
                          ("10 100 1000000000000", [10, 100, 10 ** 12]), ("9999999999999", [9999999999999])):
            with self.subTest(text=text):
                self.assertEqual(read_row(text), row)
                self.assertIs(type(read_row(text)), list)
                self.assertEqual([type(number) for number in read_row(text)], [int] * len(row))

    def test_what_is_written_is_read_back(self):
        more = [some_numbers(seed, 30, limit) for seed in range(5) for limit in (1, 99, 10 ** 12)]
        for row in small_rows((0, 1, 10, 105), 4) + rows_of_120() + more:
            self.assertEqual(read_row(show_row(row)), row)

    def test_more_than_120_numbers(self):
        self.assertEqual(read_row("1" + " 1" * 120), [1] * 121)
        self.assertEqual(read_row("0" + " 0" * 1499), [0] * 1500)

    def test_cuts_are_written_like_rows(self):
        for cut in all_cuts_of(5):
            if cut:
                self.assertEqual(read_row(show_cut(cut)), cut)
        check_kind(self, NoText, read_row, [show_cut([])])

    def test_the_row_is_the_askers_own(self):
        check_own(self, read_row, lambda: ["3 1 2"])


class NoRowsText(unittest.TestCase):
    def check(self, text):
        with self.subTest(text=text):
            check_kind(self, NoText, read_row, [text])

    def test_blanks(self):
        for text in ("", " ", "  ", " 1", "1 ", " 1 ", "1  2", "1 2  3", "1   2", "  1", "1  ", "1 2 ", " 1 2"):
            self.check(text)

    def test_line_feeds(self):
        for text in ("\n", "1\n", "\n1", "1\n2", "1 \n2", "1\n 2", "1 2\n", "1 \n", "\n 1", "1 \n 2"):
            self.check(text)

    def test_noughts_ahead(self):
        for text in ("00", "01", "007", "1 02", "01 2", "0 00", "000000000000", "0000000000001"):
            self.check(text)

    def test_more_than_thirteen_figures(self):
        for text in ("1" * 14, "9" * 14, "10000000000000", "1 " + "1" * 14, "0" * 14, "9" * 2900):
            self.check(text)

    def test_signs_and_points(self):
        for text in ("-1", "+1", "1.0", "1.", ".1", "1,2", "1, 2", "1_000", "1e3", "0x1", "0b1", "-0", "+0", "-",
                     "1 -", "- 1", "--", "1 -2", "1 +2", "1;2", "(1)", "[1, 2]", "1/2", "1 2 x", "x", "one", "1a",
                     "a1", "~", "!", "'1'", "1 2 3.5"):
            self.check(text)

    def test_all_short_texts(self):
        signs = "019 -+\n.a"
        for length in range(5):
            for text in map("".join, product(signs, repeat=length)):
                words = text.split(" ")
                good = all(word == "0" or (word != "" and set(word) <= set("019") and word[0] != "0")
                           for word in words)
                if good:
                    self.assertEqual(read_row(text), [int(word) for word in words])
                else:
                    with self.assertRaises(NoText, msg=repr(text)):
                        read_row(text)

    def test_what_is_no_text(self):
        for label, thing in no_numbers() + [("number", 1), ("nought", 0), ("row", [1, 2])]:
            if label != "text":
                with self.subTest(thing=label):
                    check_kind(self, NoText, read_row, [thing])


if __name__ == "__main__":
    unittest.main()
