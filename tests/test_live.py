"""Points 1, 7, 28 and 29: rows that change."""

import unittest

from piecebounds.errors import NoMany, NoNumber, NoPlace
from piecebounds.greatest import least_greatest
from piecebounds.least import greatest_least
from piecebounds.live import Live
from piecebounds.squares import most_even
from tests.things import check_kind, no_manys, no_numbers, rows_of_120, some_numbers

FAR = 10 ** 30


def wrong_numbers():
    """Pairs of a label and a thing that is no whole number from 0 on."""
    return no_numbers() + [("-1", -1), ("far below", -FAR)]


def wrong_places(last):
    """Pairs of a label and a thing that is no place from 0 to the last."""
    return no_numbers() + [(str(place), place) for place in (-1, -last - 1, last + 1, last + 2, FAR, -FAR)]


class Changes(unittest.TestCase):
    def check_done(self, row, name, arguments, expected):
        """The thing done gives what is expected, tells None, and is undone once."""
        live = Live(row)
        with self.subTest(row=row[:5], name=name, arguments=arguments):
            self.assertIsNone(getattr(live, name)(*arguments))
            self.assertEqual(live.row(), expected)
            self.assertIs(live.undo(), True)
            self.assertEqual(live.row(), row)
            self.assertIs(live.undo(), False)
            self.assertEqual(live.row(), row)

    def test_change(self):
        self.check_done([3, 1, 2], "change", [0, 9], [9, 1, 2])
        self.check_done([3, 1, 2], "change", [1, 0], [3, 0, 2])
        self.check_done([3, 1, 2], "change", [2, 10 ** 12], [3, 1, 10 ** 12])
        self.check_done([3, 1, 2], "change", [1, 1], [3, 1, 2])
        self.check_done([3], "change", [0, 4], [4])
        self.check_done([1] * 120, "change", [119, 4], [1] * 119 + [4])

    def test_put(self):
        self.check_done([3, 1, 2], "put", [0, 9], [9, 3, 1, 2])
        self.check_done([3, 1, 2], "put", [1, 0], [3, 0, 1, 2])
        self.check_done([3, 1, 2], "put", [2, 5], [3, 1, 5, 2])
        self.check_done([3, 1, 2], "put", [3, 10 ** 12], [3, 1, 2, 10 ** 12])
        self.check_done([0], "put", [0, 1], [1, 0])
        self.check_done([0], "put", [1, 1], [0, 1])
        self.check_done([1] * 119, "put", [119, 4], [1] * 119 + [4])

    def test_take(self):
        self.check_done([3, 1, 2], "take", [0], [1, 2])
        self.check_done([3, 1, 2], "take", [1], [3, 2])
        self.check_done([3, 1, 2], "take", [2], [3, 1])
        self.check_done([3, 1], "take", [0], [1])
        self.check_done([3, 1], "take", [1], [3])
        self.check_done([1] * 119 + [4], "take", [119], [1] * 119)

    def test_undone_one_by_one_to_the_row_at_first(self):
        row = [5, 0, 5, 4]
        live = Live(row)
        rows = [list(row)]
        for name, arguments in (
            ("change", [3, 1]), ("put", [4, 7]), ("take", [0]), ("take", [0]), ("take", [1]), ("put", [0, 2]),
            ("take", [2]), ("take", [1]), ("change", [0, 0]), ("put", [1, 6]), ("put", [0, 6]), ("change", [2, 6]),
        ):
            getattr(live, name)(*arguments)
            rows.append(live.row())
        self.assertEqual(rows, [[5, 0, 5, 4], [5, 0, 5, 1], [5, 0, 5, 1, 7], [0, 5, 1, 7], [5, 1, 7], [5, 7],
                                [2, 5, 7], [2, 5], [2], [0], [0, 6], [6, 0, 6], [6, 0, 6]])
        for expected in rows[-2::-1]:
            self.assertIs(live.undo(), True)
            self.assertEqual(live.row(), expected)
        for turn in range(2):
            self.assertIs(live.undo(), False)
            self.assertEqual(live.row(), row)

    def test_nothing_to_undo_at_first(self):
        live = Live([3])
        self.assertIs(live.undo(), False)
        self.assertIs(live.undo(), False)
        self.assertEqual(live.row(), [3])

    def test_what_is_done_behind_an_undo(self):
        live = Live([1, 2, 3])
        live.change(0, 9)
        live.put(3, 8)
        self.assertIs(live.undo(), True)
        live.take(1)
        self.assertEqual(live.row(), [9, 3])
        self.assertIs(live.undo(), True)
        self.assertEqual(live.row(), [9, 2, 3])
        self.assertIs(live.undo(), True)
        self.assertEqual(live.row(), [1, 2, 3])
        self.assertIs(live.undo(), False)
        live.put(0, 7)
        self.assertEqual(live.row(), [7, 1, 2, 3])

    def test_a_long_walk(self):
        row = some_numbers(4, 6, 9)
        live = Live(row)
        rows = [row]
        for choice, where, number in zip(*(some_numbers(seed, 800, 10 ** 6) for seed in (1, 2, 3))):
            now = list(rows[-1])
            if choice % 5 == 0 and len(rows) > 1:
                rows.pop()
                self.assertIs(live.undo(), True)
            elif choice % 5 == 1 and len(now) > 1:
                del now[where % len(now)]
                live.take(where % len(rows[-1]))
                rows.append(now)
            elif choice % 5 == 2:
                now[where % len(now)] = number
                live.change(where % len(now), number)
                rows.append(now)
            elif len(now) < 120:
                now.insert(where % (len(now) + 1), number)
                live.put(where % len(now), number)
                rows.append(now)
            self.assertEqual(live.row(), rows[-1])
        self.assertGreater(len(rows), 100)
        while len(rows) > 1:
            rows.pop()
            self.assertIs(live.undo(), True)
            self.assertEqual(live.row(), rows[-1])
        self.assertIs(live.undo(), False)


class Refused(unittest.TestCase):
    def check(self, live, kind, name, arguments):
        """The refusal is of this kind, changes nothing and is not undone."""
        before = live.row()
        check_kind(self, kind, getattr(live, name), arguments)
        self.assertEqual(live.row(), before)

    def check_undo(self, live, expected):
        """Only what was not refused is undone."""
        self.assertIs(live.undo(), True)
        self.assertEqual(live.row(), expected)
        self.assertIs(live.undo(), False)

    def make(self, row):
        """A live row to which one thing was done."""
        live = Live(row)
        live.change(0, 77)
        return live

    def test_what_is_no_place(self):
        for row in ([5, 6], [3, 1, 2], [1] * 119):
            live = self.make(row)
            for label, place in wrong_places(len(row) - 1):
                with self.subTest(place=label, length=len(row)):
                    self.check(live, NoPlace, "change", [place, 1])
                    self.check(live, NoPlace, "take", [place])
            for label, place in wrong_places(len(row)):
                with self.subTest(place=label, length=len(row)):
                    self.check(live, NoPlace, "put", [place, 1])
            self.check_undo(live, row)

    def test_what_is_no_number(self):
        for row in ([5], [3, 1, 2], [1] * 119):
            live = self.make(row)
            for label, number in wrong_numbers():
                with self.subTest(number=label, length=len(row)):
                    self.check(live, NoNumber, "change", [0, number])
                    self.check(live, NoNumber, "change", [len(row) - 1, number])
                    self.check(live, NoNumber, "put", [0, number])
                    self.check(live, NoNumber, "put", [len(row), number])
            self.check_undo(live, row)

    def test_no_place_comes_ahead_of_no_number(self):
        live = self.make([3, 1, 2])
        for label, place in wrong_places(3):
            for other, number in wrong_numbers():
                with self.subTest(place=label, number=other):
                    self.check(live, NoPlace, "change", [place, number])
                    self.check(live, NoPlace, "put", [place, number])
        self.check_undo(live, [3, 1, 2])

    def test_a_full_row_takes_no_more(self):
        live = self.make([1] * 120)
        for place in (0, 1, 60, 119, 120, 121, -1, True, None):
            for number in (0, 1, -1, None, "1", [[]]):
                with self.subTest(place=place, number=number):
                    self.check(live, NoPlace, "put", [place, number])
        self.check_undo(live, [1] * 120)
        live.take(0)
        live.put(119, 5)
        self.assertEqual(live.row(), [1] * 119 + [5])
        self.check(live, NoPlace, "put", [0, 5])

    def test_the_last_number_is_not_taken_out(self):
        live = self.make([4])
        for place in (0, 1, -1, False, True, None, "0"):
            with self.subTest(place=place):
                self.check(live, NoPlace, "take", [place])
        self.check_undo(live, [4])
        live.put(1, 5)
        live.take(0)
        self.check(live, NoPlace, "take", [0])
        self.assertEqual(live.row(), [5])

    def test_places_at_the_edges_of_a_changed_row(self):
        live = Live([1])
        self.check(live, NoPlace, "change", [1, 5])
        live.put(1, 2)
        live.change(1, 5)
        live.undo()
        live.undo()
        self.check(live, NoPlace, "change", [1, 5])
        self.assertEqual(live.row(), [1])


class Told(unittest.TestCase):
    def test_the_row_handed_in_is_not_kept_or_changed(self):
        row = [3, 1, 2]
        live = Live(row)
        row[0] = 99
        row.append(98)
        self.assertEqual(live.row(), [3, 1, 2])
        self.assertEqual(live.stretch(0, 3), 6)
        live.put(0, 5)
        live.change(1, 8)
        live.take(2)
        self.assertEqual(row, [99, 1, 2, 98])

    def test_the_row_told_is_the_askers_own(self):
        live = Live([3, 1, 2])
        for spoil in (list.clear, list.reverse, lambda told: told.append(7)):
            told = live.row()
            self.assertIs(type(told), list)
            spoil(told)
            self.assertEqual(live.row(), [3, 1, 2])
        told = live.row()
        live.change(0, 9)
        live.undo()
        live.take(0)
        self.assertEqual(told, [3, 1, 2])

    def test_rows_told_behind_an_undo_are_the_askers_own(self):
        live = Live([3, 1, 2])
        live.take(1)
        live.row().clear()
        live.undo()
        live.row().clear()
        self.assertEqual(live.row(), [3, 1, 2])

    def test_stretches(self):
        row = [3, 0, 5, 7]
        live = Live(row)
        for begin in range(5):
            for end in range(begin, 5):
                with self.subTest(begin=begin, end=end):
                    self.assertEqual(live.stretch(begin, end), sum(row[begin:end]))
        live.put(4, 10)
        self.assertEqual(live.stretch(3, 5), 17)
        live.undo()
        check_kind(self, NoPlace, live.stretch, [3, 5])
        self.assertEqual(Live([10 ** 12] * 120).stretch(0, 120), 120 * 10 ** 12)

    def test_stretches_of_nothing(self):
        for row in ([5], [3, 0, 5, 7], [1] * 120):
            for place in (0, len(row) // 2, len(row)):
                self.assertEqual(Live(row).stretch(place, place), 0)

    def test_stretches_that_are_none(self):
        live = Live([3, 0, 5, 7])
        live.change(0, 4)
        for begin in range(-2, 7):
            for end in range(-2, 7):
                if not 0 <= begin <= end <= 4:
                    with self.subTest(begin=begin, end=end):
                        check_kind(self, NoPlace, live.stretch, [begin, end])
        for label, place in wrong_places(4):
            for other in (0, 2, 4, place):
                with self.subTest(place=label):
                    check_kind(self, NoPlace, live.stretch, [place, other])
                    check_kind(self, NoPlace, live.stretch, [other, place])
        self.assertEqual(live.row(), [4, 0, 5, 7])
        self.assertIs(live.undo(), True)
        self.assertIs(live.undo(), False)

    def check_tuples(self, live, row, manys):
        """The live row tells of so many pieces what the functions tell of the row of now."""
        for many in manys:
            with self.subTest(row=row[:5], many=many):
                self.assertEqual(live.least_greatest(many), least_greatest(row, many))
                self.assertEqual(live.greatest_least(many), greatest_least(row, many))
                self.assertEqual(live.most_even(many), most_even(row, many))

    def test_the_tuples_are_those_of_the_row_of_now(self):
        live = Live([7, 2, 5, 10, 8])
        self.assertEqual(live.least_greatest(2), (18, [3]))
        self.assertEqual(live.greatest_least(3), (8, [2, 4]))
        self.assertEqual(live.most_even(3), (360, [3, 4]))
        self.check_tuples(live, [7, 2, 5, 10, 8], range(1, 6))
        live.put(0, 20)
        self.check_tuples(live, [20, 7, 2, 5, 10, 8], range(1, 7))
        live.change(3, 0)
        self.check_tuples(live, [20, 7, 2, 0, 10, 8], range(1, 7))
        live.take(5)
        self.check_tuples(live, [20, 7, 2, 0, 10], range(1, 6))
        live.undo()
        live.undo()
        self.check_tuples(live, [20, 7, 2, 5, 10, 8], range(1, 7))

    def test_the_tuples_of_120_numbers(self):
        for row in rows_of_120():
            live = Live(row)
            live.change(119, 5)
            self.check_tuples(live, row[:-1] + [5], (1, 2, 17, 119, 120))

    def test_the_tuples_told_are_the_askers_own(self):
        live = Live([5, 0, 5, 4])
        for name in ("least_greatest", "greatest_least", "most_even"):
            ask = getattr(live, name)
            for many in (1, 2, 3, 4):
                with self.subTest(name=name, many=many):
                    bound, cut = ask(many)
                    expected = (bound, list(cut))
                    cut[:] = ["spoiled"]
                    self.assertEqual(ask(many), expected)
                    self.assertEqual(live.row(), [5, 0, 5, 4])

    def test_what_is_no_number_of_pieces(self):
        for row in ([5], [3, 1, 2], [1] * 120):
            live = Live(row)
            live.change(0, 9)
            for label, many in no_manys(row):
                for ask in (live.least_greatest, live.greatest_least, live.most_even):
                    with self.subTest(many=label, length=len(row)):
                        check_kind(self, NoMany, ask, [many])
            self.assertEqual(live.row(), [9] + row[1:])
            self.assertIs(live.undo(), True)
            self.assertIs(live.undo(), False)

    def test_the_pieces_are_those_of_the_row_of_now(self):
        live = Live([5, 6])
        live.put(0, 4)
        self.assertEqual(live.least_greatest(3), (6, [1, 2]))
        live.undo()
        check_kind(self, NoMany, live.least_greatest, [3])

    def test_two_live_rows_apart_from_one_another(self):
        row = [3, 1, 2]
        one, other = Live(row), Live(row)
        one.change(0, 9)
        self.assertEqual(other.row(), [3, 1, 2])
        self.assertIs(other.undo(), False)
        other.put(0, 4)
        self.assertEqual(one.row(), [9, 1, 2])
        self.assertIs(one.undo(), True)
        self.assertEqual(other.row(), [4, 3, 1, 2])
        third = Live(one.row())
        third.take(0)
        self.assertEqual(one.row(), [3, 1, 2])


if __name__ == "__main__":
    unittest.main()
