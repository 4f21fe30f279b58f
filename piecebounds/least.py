"""The least sum of a piece, as great as can be."""

from piecebounds.rows import check_many


def short_ends(row, bound):
    """Where pieces end that are each as short as the bound lets them be, from the first on."""
    # What is left behind the last of them is too little for a piece of its own.
    ends = []
    total = 0
    for place, number in enumerate(row):
        total += number
        if total >= bound:
            ends.append(place + 1)
            total = 0
    return ends


def most_pieces(row, bound):
    """The most pieces, each with a sum of at least the bound, or None."""
    # No cut has its pieces end earlier than the one with the shortest pieces.
    ends = short_ends(row, bound)
    if len(ends) == 0:
        return None
    return len(ends)


def first_cut(row, bound):
    """The first cut, as lists are ordered, of the most pieces with such sums, or None."""
    ends = short_ends(row, bound)
    if len(ends) == 0:
        return None
    # The last piece takes what is left over, so its own end is no place of the cut.
    return ends[:-1]


def greatest_least(row, many):
    """The greatest least sum of just so many pieces, and the first cut that has it."""
    check_many(row, many)
    bound = greatest_bound(row, many)
    return (bound, short_ends(row, bound)[:many - 1])


def greatest_bound(row, many):
    """The greatest bound that so many pieces of the row can all reach."""
    # More pieces than asked for are enough: to join two of them makes no sum less.
    low = 0
    high = sum(row) // many
    while low < high:
        middle = (low + high + 1) // 2
        if len(short_ends(row, middle)) >= many:
            low = middle
        else:
            high = middle - 1
    return low
