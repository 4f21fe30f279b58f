"""Rows and cuts as texts."""

from piecebounds.errors import NoText

FIGURES = "0123456789"
MOST_FIGURES = 13


def show_row(row):
    """The text of a row: its numbers, parted by blanks."""
    return " ".join([str(number) for number in row])


def show_cut(cut):
    """The text of a cut: its places, parted by blanks, or a dash where there are none."""
    if len(cut) == 0:
        return "-"
    return show_row(cut)


def read_row(text):
    """The row that has this text."""
    if not isinstance(text, str):
        raise NoText("a row is read from a text")
    row = [read_number(word) for word in text.split(" ")]
    if None in row:
        raise NoText("a row's text is numbers parted by one blank each")
    return row


def read_number(word):
    """The number written by this word, or None."""
    if len(word) < 1 or len(word) > MOST_FIGURES:
        return None
    # Python's own reading takes blanks, signs and noughts ahead too.
    for sign in word:
        if sign not in FIGURES:
            return None
    if word[0] == "0" and word != "0":
        return None
    return int(word)
