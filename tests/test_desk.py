"""Points 1, 2, 7, 28, 30 and 31: the desk."""

import unittest

from piecebounds.desk import Desk
from piecebounds.errors import NoCommand, NoMany, NoPlace, NoText
from piecebounds.greatest import least_greatest
from piecebounds.least import greatest_least
from piecebounds.notes import show_cut, show_row
from piecebounds.rings import ring_least_greatest
from piecebounds.squares import most_even
from piecebounds.steep import at_price
from tests.things import check_kind, no_numbers, rows_of_120, some_numbers

# Nothing of these is one to thirteen figures with no nought ahead.
NO_FIGURES = ("", "-", "-1", "+1", "1.0", "x", "one", "01", "00", "007", "1\n", "\n1", "1_0", "1,", "0x1", "~",
              "1" * 14, "9" * 14, "0" * 13, "0" * 14)


def desk_of(row):
    """A desk with this row, to which nothing was done yet."""
    desk = Desk()
    desk.say("row " + show_row(row))
    return desk


class DeskCase(unittest.TestCase):
    def check_said(self, desk, *pairs):
        for words, expected in pairs:
            with self.subTest(words=words):
                told = desk.say(words)
                self.assertEqual(told, expected)
                self.assertIs(type(told), str)

    def check_refused(self, desk, kind, words):
        """The refusal is of this kind and changes nothing that is shown."""
        before = desk.say("show")
        check_kind(self, kind, desk.say, [words])
        self.assertEqual(desk.say("show"), before)

    def check_all_refused(self, row, kind, many_words):
        """Each is refused, and what was done ahead of them is still the last to be undone."""
        desk = desk_of(row)
        desk.say("change 0 77")
        for words in many_words:
            with self.subTest(words=words, length=len(row)):
                self.check_refused(desk, kind, words)
        self.check_said(desk, ("undo", "ok"), ("show", show_row(row)), ("undo", "none"))


class Answers(DeskCase):
    def test_a_nought_alone_at_first(self):
        self.check_said(Desk(), ("show", "0"), ("undo", "none"), ("great 1", "0 -"), ("sum 0 1", "0"),
                        ("ring 1", "0 0"), ("price 3", "3 1 -"), ("change 0 4", "ok"), ("show", "4"))

    def test_a_new_row(self):
        self.check_said(Desk(), ("row 7 2 5 10 8", "ok"), ("show", "7 2 5 10 8"), ("row 0", "ok"), ("show", "0"),
                        ("row 9999999999999 0", "ok"), ("show", "9999999999999 0"))

    def test_a_new_row_forgets_what_was_done(self):
        self.check_said(Desk(), ("change 0 4", "ok"), ("put 0 1", "ok"), ("row 5 6", "ok"), ("undo", "none"),
                        ("show", "5 6"), ("take 0", "ok"), ("undo", "ok"), ("undo", "none"), ("show", "5 6"))

    def test_rows_of_120_numbers(self):
        for row in rows_of_120():
            self.check_said(Desk(), ("row " + show_row(row), "ok"), ("show", show_row(row)))

    def test_change_put_take_and_undo(self):
        self.check_said(Desk(), ("row 3 1 2", "ok"),
                        ("change 1 9", "ok"), ("show", "3 9 2"),
                        ("put 3 0", "ok"), ("show", "3 9 2 0"),
                        ("put 0 9999999999999", "ok"), ("show", "9999999999999 3 9 2 0"),
                        ("take 4", "ok"), ("show", "9999999999999 3 9 2"),
                        ("take 0", "ok"), ("show", "3 9 2"),
                        ("undo", "ok"), ("show", "9999999999999 3 9 2"),
                        ("undo", "ok"), ("undo", "ok"), ("show", "3 9 2 0"),
                        ("undo", "ok"), ("undo", "ok"), ("show", "3 1 2"),
                        ("undo", "none"), ("undo", "none"), ("show", "3 1 2"))

    def test_sums(self):
        row = [3, 0, 5, 7]
        pairs = [(f"sum {begin} {end}", str(sum(row[begin:end]))) for end in range(5) for begin in range(end + 1)]
        self.check_said(desk_of(row), *pairs)

    def test_bounds_and_cuts(self):
        self.check_said(desk_of([7, 2, 5, 10, 8]),
                        ("great 1", "32 -"), ("great 2", "18 3"), ("great 3", "14 3 4"), ("great 5", "10 1 2 3 4"),
                        ("least 1", "32 -"), ("least 2", "14 3"), ("least 3", "8 2 4"), ("least 5", "2 1 2 3 4"),
                        ("even 1", "1024 -"), ("even 2", "520 3"), ("even 3", "360 3 4"), ("even 5", "242 1 2 3 4"),
                        ("ring 1", "32 0"), ("ring 2", "17 1 4"), ("ring 5", "10 0 1 2 3 4"))

    def test_prices(self):
        self.check_said(desk_of([7, 2, 5, 10, 8]),
                        ("price 0", "242 5 1 2 3 4"), ("price 19", "337 5 1 2 3 4"), ("price 20", "342 4 1 3 4"),
                        ("price 504", "1528 1 -"), ("price 9999999999999", "10000000001023 1 -"))

    def test_answers_are_those_of_the_functions(self):
        noughts = [0 if place % 3 else number for place, number in enumerate(some_numbers(3, 40, 10 ** 12))]
        for row in (some_numbers(1, 40, 10 ** 12), noughts, some_numbers(2, 9, 3), [4]):
            desk = desk_of(row)
            for many in sorted({1, len(row) // 4 + 1, len(row) // 2 + 1, len(row)}):
                for word, function in (("great", least_greatest), ("least", greatest_least), ("even", most_even),
                                       ("ring", ring_least_greatest)):
                    bound, cut = function(row, many)
                    self.check_said(desk, (f"{word} {many}", f"{bound} {show_cut(cut)}"))
            for price in (0, 1, 1000, 10 ** 12):
                cost, many, cut = at_price(row, price)
                self.check_said(desk, (f"price {price}", f"{cost} {many} {show_cut(cut)}"))

    def test_answers_of_120_numbers(self):
        for row in rows_of_120():
            desk = desk_of(row)
            for many in (1, 2, 60, 120):
                for word, function in (("great", least_greatest), ("least", greatest_least), ("even", most_even)):
                    bound, cut = function(row, many)
                    self.check_said(desk, (f"{word} {many}", f"{bound} {show_cut(cut)}"))

    def test_answers_are_those_of_the_row_of_now(self):
        self.check_said(desk_of([5, 6]), ("put 0 4", "ok"), ("great 3", "6 1 2"), ("least 2", "6 2"),
                        ("even 2", "117 2"), ("ring 3", "6 0 1 2"), ("sum 0 3", "15"), ("price 1", "80 3 1 2"),
                        ("undo", "ok"), ("great 2", "6 1"), ("sum 0 2", "11"), ("price 1", "63 2 1"),
                        ("ring 2", "6 0 1"))

    def test_asking_is_not_undone(self):
        self.check_said(desk_of([5, 6]), ("take 0", "ok"), ("show", "6"), ("great 1", "6 -"), ("sum 0 1", "6"),
                        ("price 0", "36 1 -"), ("ring 1", "6 0"), ("undo", "ok"), ("show", "5 6"), ("undo", "none"))

    def test_two_desks_apart_from_one_another(self):
        one, other = Desk(), Desk()
        self.check_said(one, ("row 1 2", "ok"), ("change 0 9", "ok"))
        self.check_said(other, ("show", "0"), ("undo", "none"), ("row 4 4 4", "ok"), ("take 0", "ok"))
        self.check_said(one, ("show", "9 2"), ("undo", "ok"), ("undo", "none"), ("show", "1 2"))
        self.check_said(other, ("show", "4 4"), ("undo", "ok"), ("show", "4 4 4"))


class NoCommands(DeskCase):
    def test_what_is_no_text(self):
        things = no_numbers() + [("number", 5), ("words", ["show"]), ("bytes of words", b"show"), ("pair", ("undo",))]
        desk = desk_of([5, 6])
        desk.say("change 0 77")
        for label, thing in things:
            with self.subTest(thing=label):
                self.check_refused(desk, NoCommand, thing)
        self.check_said(desk, ("undo", "ok"), ("undo", "none"))

    def test_other_words(self):
        self.check_all_refused([5, 6], NoCommand, [
            "", " ", "  ", "\n", "-", "0", "1", "5 6", "help", "rows 1", "shows", "undone", "redo", "quit", "sums 0 1",
            "greatest 1", "add 0 1", "many", "row", "row\n1", "row\n", "rows", "ro 1", "None", "~",
        ])

    def test_great_letters(self):
        self.check_all_refused([5, 6], NoCommand, [
            "SHOW", "Show", "shoW", "UNDO", "Undo", "ROW 1", "Row 1", "CHANGE 0 1", "Change 0 1", "PUT 0 1", "Take 0",
            "SUM 0 1", "Great 1", "LEAST 1", "Even 1", "Price 1", "RING 1",
        ])

    def test_too_few_and_too_many_words(self):
        self.check_all_refused([5, 6], NoCommand, [
            "change", "change 0", "change 0 1 2", "put", "put 0", "put 0 1 2", "take", "take 0 1", "undo 1", "undo undo",
            "show 0", "show show", "sum", "sum 0", "sum 0 1 2", "great", "great 1 1", "least", "least 1 1", "even",
            "even 1 1", "price", "price 1 1", "ring", "ring 1 1",
        ])

    def test_blanks_doubled_ahead_and_behind(self):
        good = ["change 0 1", "put 0 1", "take 0", "undo", "show", "sum 0 1", "great 1", "least 1", "even 1", "price 1",
                "ring 1"]
        wrong = [words.replace(" ", "  ") for words in good if " " in words]
        wrong += [words.replace(" ", "  ", 1) for words in good if " " in words]
        wrong += [form for words in good for form in (" " + words, words + " ", "  " + words, words + "  ",
                                                      "\n" + words, words + "\n", words.replace(" ", "\n") + "\n")]
        self.check_all_refused([5, 6], NoCommand, wrong + [" row 1", "  row 1", "\nrow 1"])

    def test_what_is_no_figures(self):
        wrong = []
        for text in NO_FIGURES:
            wrong += [f"{word} {text}" for word in ("take", "great", "least", "even", "price", "ring")]
            for word in ("change", "put", "sum"):
                wrong += [f"{word} {text} 1", f"{word} 0 {text}", f"{word} {text} {text}"]
        self.check_all_refused([5, 6], NoCommand, wrong)

    def test_no_command_comes_ahead_of_no_place_and_no_many(self):
        self.check_all_refused([5], NoCommand, [
            "change 9 01", "change 9 -1", "put 9 x", "put 01 9", "take 01", "take 9 9", "sum 9 01", "sum 01 0",
            "great 00", "least -1", "even 01", "ring 00", "great 0 0",
        ])

    def test_a_ring_of_more_than_40_numbers(self):
        self.check_said(desk_of([1] * 40), ("ring 40", "1 " + show_row(list(range(40)))), ("ring 1", "40 0"))
        for length in (41, 42, 120):
            self.check_all_refused([1] * length, NoCommand,
                                   [f"ring {many}" for many in (0, 1, 2, 40, 41, length, length + 1, 9999999999999)])

    def test_a_ring_that_grows_beyond_40_numbers(self):
        desk = desk_of([1] * 40)
        desk.say("put 40 1")
        self.check_refused(desk, NoCommand, "ring 2")
        desk.say("undo")
        self.check_said(desk, ("ring 2", "20 0 20"))


class OtherRefusals(DeskCase):
    def test_no_text(self):
        wrong = ["row ", "row  ", "row  1", "row 1 ", "row 1  2", "row 01", "row -1", "row +1", "row 1.0", "row x",
                 "row -", "row 1\n", "row \n1", "row 1\n2", "row 1 2 x", "row " + "1" * 14, "row row 1", "row 1,2",
                 "row 00", "row show", "row " + "1 " * 120]
        self.check_all_refused([5, 6], NoText, wrong)

    def test_more_than_120_numbers(self):
        wrong = ["row " + show_row([1] * length) for length in (121, 122, 1400)]
        self.check_all_refused([5, 6], NoText, wrong)
        self.check_said(Desk(), ("row " + show_row([1] * 120), "ok"), ("sum 0 120", "120"))

    def test_no_place(self):
        self.check_all_refused([5, 6], NoPlace, [
            "change 2 1", "change 3 0", "change 9999999999999 1", "put 3 1", "put 9999999999999 1", "take 2", "take 3",
            "sum 1 0", "sum 2 1", "sum 0 3", "sum 3 3", "sum 3 0", "sum 2 0", "sum 0 9999999999999",
        ])

    def test_a_full_row_and_the_last_number(self):
        self.check_all_refused([1] * 120, NoPlace, ["put 0 1", "put 119 1", "put 120 1", "put 121 1"])
        self.check_all_refused([1], NoPlace, ["take 0", "take 1"])
        self.check_all_refused([0], NoPlace, ["take 0"])

    def test_no_many(self):
        for row in ([5], [5, 6], [1] * 40):
            self.check_all_refused(row, NoMany, [
                f"{word} {many}" for word in ("great", "least", "even", "ring")
                for many in (0, len(row) + 1, len(row) + 2, 9999999999999)])
        self.check_all_refused([1] * 120, NoMany, ["great 0", "great 121", "least 0", "least 121", "even 0", "even 121"])


if __name__ == "__main__":
    unittest.main()
