"""Points 1, 2, 7, 22, 23, 24 and 25: papers that none is better."""

import unittest
from copy import deepcopy
from itertools import combinations, product

from piecebounds.errors import NoMany
from piecebounds.greatest import least_greatest
from piecebounds.least import greatest_least
from piecebounds.papers import paper_of_greatest, paper_of_least, says_greatest, says_least
from tests.things import (check_no_many, check_own, check_refused, cuts_into, deep_things, no_lists, no_manys,
                          no_numbers, rows_of_120, slow_ahead, slow_sums, small_rows, some_numbers)

FAR = 10 ** 30


def rows_for_papers():
    more = [some_numbers(seed, 7, limit) for seed in range(6) for limit in (2, 9, 10 ** 12)]
    like = [[value] * length for value in (0, 1, 10 ** 12) for length in (1, 2, 6, 7)]
    return small_rows((0, 1, 2), 5) + small_rows((0, 3, 4, 9), 4) + like + more


def slow_says_stretches(row, many, stretches):
    """What the stretches say, by the places of the numbers in each of them, or None."""
    if len(stretches) != many:
        return None
    held = [[place for place in range(-9, 99) if begin <= place < end] for begin, end in stretches]
    for places in held:
        if len(places) < 2 or places[0] < 0 or places[-1] >= len(row):
            return None
    for places, others in zip(held, held[1:]):
        if others[0] < places[-1]:
            return None
    return min(sum(row[place] for place in places) for places in held)


def slow_says_least(row, places):
    """The greatest sum that is left where the numbers at the places are left out."""
    sums = [0]
    for place, number in enumerate(row):
        if place in places:
            sums.append(0)
        else:
            sums[-1] += number
    return max(sums)


def stretches_of(length, many):
    """All lists of so many pairs of numbers from one below 0 to one above the length."""
    pairs = list(product(range(-1, length + 2), repeat=2))
    return [list(stretches) for stretches in product(pairs, repeat=many)]


class SaysGreatest(unittest.TestCase):
    row = [4, 0, 7, 1, 3]

    def test_a_number_says_itself(self):
        for many in range(1, 6):
            for place, number in enumerate(self.row):
                with self.subTest(many=many, place=place):
                    self.assertEqual(says_greatest(self.row, many, ("number", place)), number)

    def test_a_number_at_no_place(self):
        for row in ([9], [0, 0], self.row, [1] * 120):
            for place in (-1, -2, -len(row), len(row), len(row) + 1, FAR, -FAR):
                with self.subTest(length=len(row), place=place):
                    self.assertIsNone(says_greatest(row, 1, ("number", place)))

    def test_what_is_no_number_in_its_place(self):
        for label, place in no_numbers():
            with self.subTest(place=label):
                self.assertIsNone(says_greatest(self.row, 2, ("number", place)))

    def test_stretches_say_the_least_of_their_sums(self):
        for stretches, expected in (
            ([(0, 5)], 15), ([(0, 2)], 4), ([(3, 5)], 4), ([(1, 4)], 8),
            ([(0, 2), (2, 4)], 4), ([(0, 3), (2, 4)], 8), ([(0, 3), (2, 5)], 11), ([(0, 4), (3, 5)], 4),
            ([(0, 2), (1, 3), (2, 4), (3, 5)], 4), ([(0, 2), (3, 5)], 4), ([(1, 3), (3, 5)], 4),
        ):
            with self.subTest(stretches=stretches):
                self.assertEqual(says_greatest(self.row, len(stretches), ("stretches", stretches)), expected)

    def test_stretches_that_are_none(self):
        for many, stretches in (
            (1, []), (1, [(0, 2), (2, 4)]), (2, [(0, 5)]), (3, [(0, 2), (2, 4)]),
            (1, [(0, 0)]), (1, [(0, 1)]), (1, [(4, 5)]), (1, [(2, 1)]), (1, [(5, 5)]), (1, [(0, -1)]), (1, [(5, 7)]),
            (1, [(-1, 2)]), (1, [(-2, 5)]), (1, [(0, 6)]), (1, [(4, 6)]), (1, [(0, FAR)]), (1, [(-FAR, 5)]),
            (2, [(0, 3), (1, 4)]), (2, [(0, 3), (0, 3)]), (2, [(2, 4), (0, 2)]), (2, [(0, 5), (3, 5)]),
            (2, [(0, 2), (1, 2)]), (2, [(0, 2), (4, 6)]), (2, [(0, 2), (4, 5)]), (2, [(0, 1), (2, 4)]),
            (3, [(0, 2), (1, 4), (2, 4)]),
        ):
            with self.subTest(many=many, stretches=stretches):
                self.assertIsNone(says_greatest(self.row, many, ("stretches", stretches)))

    def test_all_lists_of_stretches_of_short_rows(self):
        for row, most in (([3], 2), ([2, 5], 2), ([4, 0, 7], 2), ([4, 0, 7, 1], 2)):
            for count in range(most + 1):
                for stretches in stretches_of(len(row), count):
                    for many in range(1, len(row) + 1):
                        self.assertEqual(says_greatest(row, many, ("stretches", stretches)),
                                         slow_says_stretches(row, many, stretches), (row, many, stretches))

    def test_what_is_no_list_of_stretches(self):
        for label, thing in no_lists() + [("tuple of stretches", ((0, 5),)), ("stretch", (0, 5))]:
            with self.subTest(thing=label):
                self.assertIsNone(says_greatest(self.row, 1, ("stretches", thing)))

    def test_what_is_no_stretch(self):
        others = [("list", [0, 5]), ("one", (0,)), ("three", (0, 5, 5)), ("none", ()), ("text", "05"), ("number", 5)]
        for label, thing in no_numbers() + others:
            for many, stretches in ((1, [thing]), (2, [thing, (3, 5)]), (2, [(0, 2), thing])):
                with self.subTest(thing=label, many=many):
                    self.assertIsNone(says_greatest(self.row, many, ("stretches", stretches)))

    def test_what_is_no_number_in_a_stretch(self):
        for label, thing in no_numbers():
            for stretch in ((thing, 5), (0, thing), (thing, thing)):
                with self.subTest(thing=label):
                    self.assertIsNone(says_greatest(self.row, 1, ("stretches", [stretch])))
        self.assertIsNone(says_greatest(self.row, 2, ("stretches", [(False, 2), (2, 4)])))
        self.assertIsNone(says_greatest(self.row, 2, ("stretches", [(0, 2), (True, 4)])))

    def test_other_words(self):
        words = ["", "numbers", "Number", "NUMBER", "number ", " number", "stretch", "Stretches", "stretches\n", "place",
                 b"number", b"stretches"]
        for word in words + [thing for label, thing in no_numbers()]:
            for shown in (0, [(0, 5)]):
                self.assertIsNone(says_greatest(self.row, 1, (word, shown)))

    def test_words_with_the_others_thing(self):
        self.assertIsNone(says_greatest(self.row, 1, ("number", [(0, 5)])))
        self.assertIsNone(says_greatest(self.row, 1, ("stretches", 0)))

    def test_things_that_are_no_pairs(self):
        things = [["number", 0], ["stretches", [(0, 5)]], ("number",), ("number", 0, 0), (), ("stretches",),
                  ("stretches", [(0, 5)], []), {"number": 0}, "number 0", (0, "number"), 0, 5, -1,
                  ("number", (0,)), (("number", 0),), [("number", 0)], [(0, 5)], (0, 5)]
        for thing in things + [thing for label, thing in no_numbers()]:
            for many in (1, 2, 5):
                self.assertIsNone(says_greatest(self.row, many, thing))

    def test_things_deep_within_one_another(self):
        for label, thing in deep_things():
            for paper in (thing, (thing, thing), ("number", thing), ("stretches", thing), ("stretches", [thing]),
                          ("stretches", [(0, thing)]), ("stretches", [(thing, 5)]), (thing, 0)):
                with self.subTest(thing=label):
                    self.assertIsNone(says_greatest(self.row, 1, paper))

    def test_no_cut_is_below_what_a_paper_says(self):
        for row in [[4, 0, 7, 1], [0, 0, 1, 0], [3, 3, 3, 3], [9, 1, 1, 1]]:
            for many in (1, 2):
                bound = min(max(slow_sums(row, cut)) for cut in cuts_into(4, many))
                papers = [("number", place) for place in range(-1, 5)]
                papers += [("stretches", stretches) for stretches in stretches_of(4, many)]
                said = [says_greatest(row, many, paper) for paper in papers]
                self.assertEqual(max(one for one in said if one is not None), bound, (row, many))

    def test_row_and_paper_stay_as_they_are(self):
        for many, paper in ((1, ("number", 2)), (1, ("number", 9)), (2, ("stretches", [(0, 3), (2, 5)]))):
            with self.subTest(paper=paper):
                check_own(self, says_greatest, lambda: [list(self.row), many, deepcopy(paper)])
                self.assertIn(type(says_greatest(self.row, many, paper)), (int, type(None)))


class PaperOfGreatest(unittest.TestCase):
    def check(self, row, many):
        """The paper says just the least greatest sum, to the checker of the tests too."""
        word, shown = paper = paper_of_greatest(row, many)
        self.assertIs(type(paper), tuple)
        bound = least_greatest(row, many)[0]
        self.assertEqual(says_greatest(row, many, paper), bound, (row, many))
        if word == "number":
            self.assertIs(type(shown), int)
            self.assertGreaterEqual(shown, 0)
            self.assertEqual(row[shown], bound)
        else:
            self.assertEqual(word, "stretches")
            self.assertIs(type(shown), list)
            self.assertEqual({(type(one), type(one[0]), type(one[1])) for one in shown}, {(tuple, int, int)})
        return paper

    def test_the_paper_says_the_least_greatest_sum(self):
        for row in rows_for_papers():
            for many in range(1, len(row) + 1):
                word, shown = self.check(row, many)
                if word == "stretches":
                    bound = min(max(slow_sums(row, cut)) for cut in cuts_into(len(row), many))
                    self.assertEqual(slow_says_stretches(row, many, shown), bound, (row, many))

    def test_both_kinds_are_told(self):
        self.assertEqual(paper_of_greatest([5], 1), ("number", 0))
        self.assertEqual(paper_of_greatest([1, 9, 1], 2)[0], "stretches")
        self.assertEqual(paper_of_greatest([1, 9, 1], 3), ("number", 1))
        self.assertEqual(paper_of_greatest([7, 2, 5, 10, 8], 1), ("stretches", [(0, 5)]))

    def test_rows_of_one_number(self):
        for number in (0, 1, 10 ** 12):
            self.assertEqual(self.check([number], 1), ("number", 0))

    def test_rows_of_120_numbers(self):
        for row in rows_of_120():
            ahead = slow_ahead(row)
            for many in range(1, 121):
                word, shown = self.check(row, many)
                if word == "stretches":
                    self.assertEqual(len(shown), many)
                    self.assertEqual(min(ahead[end] - ahead[begin] for begin, end in shown),
                                     least_greatest(row, many)[0])

    def test_what_is_told_is_the_askers_own(self):
        for many in (1, 2, 3, 4):
            with self.subTest(many=many):
                check_own(self, paper_of_greatest, lambda: [[5, 0, 5, 4], many])


class SaysLeast(unittest.TestCase):
    row = [4, 0, 7, 1, 3]

    def test_places_say_the_greatest_sum_beside_them(self):
        for many, places, expected in (
            (1, [], 15), (2, [], 15), (5, [], 15), (2, [0], 11), (2, [2], 4), (2, [4], 12), (3, [2], 4),
            (3, [0, 2], 4), (3, [0, 1], 11), (3, [2, 3], 4), (4, [0, 2, 4], 1), (5, [0, 1, 2, 3], 3),
            (5, [1, 2, 3, 4], 4),
        ):
            with self.subTest(many=many, places=places):
                self.assertEqual(says_least(self.row, many, places), expected)

    def test_nought_of_nothing(self):
        self.assertEqual(says_least([5, 5], 2, [0]), 5)
        self.assertEqual(says_least([5, 0], 2, [0]), 0)
        self.assertEqual(says_least([0, 5], 2, [1]), 0)
        self.assertEqual(says_least([5, 0, 5], 3, [0, 2]), 0)
        self.assertEqual(says_least([5], 1, []), 5)

    def test_as_many_places_as_pieces_or_more(self):
        for many, places in ((1, [0]), (1, [4]), (2, [0, 1]), (2, [1, 2, 3]), (3, [0, 2, 4]), (4, [0, 1, 2, 3]),
                             (5, [0, 1, 2, 3, 4])):
            with self.subTest(many=many, places=places):
                self.assertIsNone(says_least(self.row, many, places))

    def test_places_that_do_not_rise_or_are_none(self):
        for places in ([-1], [5], [6], [FAR], [-FAR], [0, 0], [1, 0], [2, 2], [3, 1], [0, 2, 1], [-1, 0], [0, 5],
                       [0, 1, 1], [-5, 1], [4, 5]):
            with self.subTest(places=places):
                self.assertIsNone(says_least(self.row, 5, places))

    def test_all_short_lists_of_places(self):
        for row in ([3], [2, 5], [0, 0], [4, 0, 7], [4, 0, 7, 1]):
            length = len(row)
            for count in range(4):
                good = [list(places) for places in combinations(range(length), count)]
                for places in map(list, product(range(-1, length + 2), repeat=count)):
                    for many in range(1, length + 1):
                        expected = slow_says_least(row, places) if places in good and count < many else None
                        self.assertEqual(says_least(row, many, places), expected, (row, many, places))

    def test_what_is_no_number_among_the_places(self):
        for label, wrong in no_numbers():
            for thing in ([wrong], [wrong, 2], [0, wrong], [0, wrong, 3]):
                with self.subTest(wrong=label, length=len(thing)):
                    self.assertIsNone(says_least(self.row, 5, thing))

    def test_what_is_no_list(self):
        for label, thing in no_lists() + [("tuple of places", (0, 2)), ("paper of the other kind", ("number", 0))]:
            with self.subTest(thing=label):
                self.assertIsNone(says_least(self.row, 5, thing))

    def test_things_deep_within_one_another(self):
        for label, thing in deep_things():
            for paper in (thing, [thing], [0, thing]):
                with self.subTest(thing=label):
                    self.assertIsNone(says_least(self.row, 5, paper))

    def test_no_cut_is_above_what_a_paper_says(self):
        for row in small_rows((0, 1, 4), 4):
            for many in range(1, len(row) + 1):
                bound = max(min(slow_sums(row, cut)) for cut in cuts_into(len(row), many))
                papers = [list(places) for count in range(many) for places in combinations(range(len(row)), count)]
                self.assertEqual(min(says_least(row, many, paper) for paper in papers), bound, (row, many))

    def test_row_and_paper_stay_as_they_are(self):
        for places in ([], [0], [0, 2], [4, 4], [9]):
            with self.subTest(places=places):
                check_own(self, says_least, lambda: [list(self.row), 4, list(places)])
        self.assertIs(type(says_least(self.row, 4, [0, 2])), int)


class PaperOfLeast(unittest.TestCase):
    def check(self, row, many):
        """The paper says just the greatest least sum, by the way of the tests too."""
        paper = paper_of_least(row, many)
        bound = greatest_least(row, many)[0]
        self.assertIs(type(paper), list)
        self.assertLess(len(paper), many)
        self.assertEqual(paper, sorted(set(paper)))
        self.assertTrue(all(type(place) is int and 0 <= place < len(row) for place in paper))
        self.assertEqual(says_least(row, many, paper), bound, (row, many))
        self.assertEqual(slow_says_least(row, paper), bound, (row, many))

    def test_the_paper_says_the_greatest_least_sum(self):
        for row in rows_for_papers():
            for many in range(1, len(row) + 1):
                self.check(row, many)
                bound = max(min(slow_sums(row, cut)) for cut in cuts_into(len(row), many))
                self.assertEqual(says_least(row, many, paper_of_least(row, many)), bound, (row, many))

    def test_one_piece_needs_no_place(self):
        for row in ([5], [0], [3, 0, 4], [1] * 120):
            self.assertEqual(paper_of_least(row, 1), [])

    def test_rows_of_120_numbers(self):
        for row in rows_of_120():
            for many in range(1, 121):
                self.check(row, many)

    def test_what_is_told_is_the_askers_own(self):
        for many in (1, 2, 3, 4):
            with self.subTest(many=many):
                check_own(self, paper_of_least, lambda: [[5, 0, 5, 4], many])


class SoManyPieces(unittest.TestCase):
    def test_what_is_no_number_of_pieces(self):
        check_no_many(self, paper_of_greatest, [])
        check_no_many(self, paper_of_least, [])

    def test_what_is_no_number_of_pieces_to_a_checker(self):
        check_no_many(self, says_greatest, [("number", 0)])
        check_no_many(self, says_least, [[]])

    def test_whatever_the_thing_is(self):
        row = [3, 0, 4]
        things = no_numbers() + [("stretches", ("stretches", [(0, 3)])), ("no stretches", ("stretches", [])),
                                 ("no place", ("number", 3)), ("place", [0]), ("places", [0, 1, 2])]
        for label, many in no_manys(row):
            for other, thing in things:
                with self.subTest(many=label, thing=other):
                    check_refused(self, NoMany, says_greatest, [row, many, thing])
                    check_refused(self, NoMany, says_least, [row, many, thing])


if __name__ == "__main__":
    unittest.main()
