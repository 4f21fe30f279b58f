"""Rows that change, and what was done to them undone."""

from piecebounds.errors import NoNumber, NoPlace
from piecebounds.greatest import least_greatest
from piecebounds.least import greatest_least
from piecebounds.rows import is_whole, is_within
from piecebounds.squares import most_even

MOST_NUMBERS = 120


def check_place(thing, last):
    """Refuse with NoPlace what is no place from 0 to the last."""
    # The message does not show the thing: it may be nested too deep to be shown.
    if not is_within(thing, 0, last):
        raise NoPlace("the place must be a whole number from 0 on, within the row")


def check_number(thing):
    """Refuse with NoNumber what is no whole number from 0 on."""
    if not is_whole(thing) or thing < 0:
        raise NoNumber("the number must be a whole number from 0 on")


class Live:
    """A row whose numbers are changed, put in and taken out."""

    def __init__(self, row):
        self.numbers = list(row)
        # For each thing done: where what it put there stands, and what stood there before.
        self.done = []

    def change(self, place, number):
        """Put another number in the place of the one there."""
        check_place(place, len(self.numbers) - 1)
        check_number(number)
        self.swap(place, place + 1, [number])

    def put(self, place, number):
        """Put a number in at the place, ahead of the one there."""
        if len(self.numbers) >= MOST_NUMBERS:
            raise NoPlace("the row takes no more numbers")
        check_place(place, len(self.numbers))
        check_number(number)
        self.swap(place, place, [number])

    def take(self, place):
        """Take the number at the place out."""
        if len(self.numbers) == 1:
            raise NoPlace("the last number left is not taken out")
        check_place(place, len(self.numbers) - 1)
        self.swap(place, place + 1, [])

    def swap(self, begin, end, numbers):
        """Put numbers in the place of a stretch, in a way that can be undone."""
        self.done.append((begin, begin + len(numbers), self.numbers[begin:end]))
        self.numbers[begin:end] = numbers

    def undo(self):
        """Undo the last thing done and not undone yet; whether there was one."""
        if len(self.done) == 0:
            return False
        begin, end, before = self.done.pop()
        self.numbers[begin:end] = before
        return True

    def row(self):
        """The row of now."""
        return list(self.numbers)

    def stretch(self, begin, end):
        """The sum of the numbers from the begin on, up to the end."""
        check_place(end, len(self.numbers))
        check_place(begin, end)
        return sum(self.numbers[begin:end])

    def least_greatest(self, many):
        """The least greatest sum of so many pieces of the row of now, and the first cut that has it."""
        return least_greatest(self.numbers, many)

    def greatest_least(self, many):
        """The greatest least sum of so many pieces of the row of now, and the first cut that has it."""
        return greatest_least(self.numbers, many)

    def most_even(self, many):
        """The least evenness of so many pieces of the row of now, and the first cut that has it."""
        return most_even(self.numbers, many)
