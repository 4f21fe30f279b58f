"""A desk: it is told rows of words and answers each by a text."""

from piecebounds.errors import NoCommand, NoText
from piecebounds.live import MOST_NUMBERS, Live
from piecebounds.notes import read_number, read_row, show_cut, show_row
from piecebounds.rings import ring_least_greatest
from piecebounds.steep import at_price

MOST_IN_RING = 40


def show_best(best):
    """The text of a bound and a cut."""
    bound, cut = best
    return f"{bound} {show_cut(cut)}"


def change_number(live, numbers):
    live.change(numbers[0], numbers[1])
    return "ok"


def put_number(live, numbers):
    live.put(numbers[0], numbers[1])
    return "ok"


def take_number(live, numbers):
    live.take(numbers[0])
    return "ok"


def undo_last(live, numbers):
    if live.undo():
        return "ok"
    return "none"


def tell_row(live, numbers):
    return show_row(live.row())


def tell_sum(live, numbers):
    return str(live.stretch(numbers[0], numbers[1]))


def tell_great(live, numbers):
    return show_best(live.least_greatest(numbers[0]))


def tell_least(live, numbers):
    return show_best(live.greatest_least(numbers[0]))


def tell_even(live, numbers):
    return show_best(live.most_even(numbers[0]))


def tell_price(live, numbers):
    cost, many, cut = at_price(live.row(), numbers[0])
    return f"{cost} {many} {show_cut(cut)}"


def tell_ring(live, numbers):
    row = live.row()
    if len(row) > MOST_IN_RING:
        raise NoCommand("a ring has at most 40 numbers")
    return show_best(ring_least_greatest(row, numbers[0]))


# For each first word how many numbers come behind it, and what answers it.
COUNTS = {
    "change": 2, "put": 2, "take": 1, "undo": 0, "show": 0, "sum": 2,
    "great": 1, "least": 1, "even": 1, "price": 1, "ring": 1,
}
ANSWERS = {
    "change": change_number, "put": put_number, "take": take_number, "undo": undo_last, "show": tell_row,
    "sum": tell_sum, "great": tell_great, "least": tell_least, "even": tell_even, "price": tell_price,
    "ring": tell_ring,
}


def answer(live, words):
    """What a live row answers to a row of words that brings no new row."""
    word, *others = words.split(" ")
    if COUNTS.get(word) != len(others):
        raise NoCommand("there is no such row of words")
    numbers = [read_number(other) for other in others]
    if None in numbers:
        raise NoCommand("a number is one to thirteen figures, with no nought ahead")
    action = ANSWERS[word]
    return action(live, numbers)


class Desk:
    """A desk keeps a live row, at first a nought alone."""

    def __init__(self):
        self.live = Live([0])

    def say(self, words):
        """The answer to a row of words."""
        if not isinstance(words, str):
            raise NoCommand("a row of words is a text")
        word, blank, text = words.partition(" ")
        if word == "row" and blank == " ":
            return self.begin_anew(text)
        return answer(self.live, words)

    def begin_anew(self, text):
        """Keep a new live row instead, read from its text."""
        row = read_row(text)
        if len(row) > MOST_NUMBERS:
            raise NoText("a row at the desk has at most 120 numbers")
        self.live = Live(row)
        return "ok"
