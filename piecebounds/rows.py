"""Rows, their cuts, and the numbers of pieces that may be asked of them."""

from piecebounds.errors import NoMany


def is_whole(thing):
    """Whether a thing, which may be anything, is a whole number."""
    # Python counts a truth as an int; the document does not.
    return isinstance(thing, int) and not isinstance(thing, bool)


def is_row(thing):
    """Whether a thing, which may be anything, is a row."""
    if not isinstance(thing, list) or len(thing) == 0:
        return False
    for number in thing:
        if not is_whole(number) or number < 0:
            return False
    return True


def is_within(thing, low, high):
    """Whether a thing, which may be anything, is a whole number from low to high."""
    return is_whole(thing) and low <= thing <= high


def are_places(row, thing, first):
    """Whether a thing, which may be anything, is a rising list of places of the row, from the first on."""
    if not isinstance(thing, list):
        return False
    least = first
    for place in thing:
        if not is_within(place, least, len(row) - 1):
            return False
        least = place + 1
    return True


def is_cut(row, thing):
    """Whether a thing, which may be anything, is a cut of the row."""
    # The first piece begins at 0 without being told, so 0 is no place of a cut.
    return are_places(row, thing, 1)


def pieces(row, cut):
    """The pieces of a cut, each a list of numbers."""
    return [row[begin:end] for begin, end in zip([0] + cut, cut + [len(row)])]


def sums_of(row, cut):
    """The sums of the pieces of a cut."""
    return [sum(piece) for piece in pieces(row, cut)]


def check_many(row, many):
    """Refuse with NoMany what is no number of pieces of the row."""
    # The message does not show the thing: it may be nested too deep to be shown.
    if not is_within(many, 1, len(row)):
        raise NoMany("so many pieces must be a whole number from 1 to the length of the row")
