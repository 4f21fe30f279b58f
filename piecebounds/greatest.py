"""The greatest sum of a piece, as little as can be."""

from piecebounds.rows import check_many


def long_cut(row, bound):
    """The cut whose pieces are each as long as the bound lets them be, from the first on, or None."""
    # A number above the bound fits into no piece; all others fit at least alone.
    if max(row) > bound:
        return None
    cut = []
    total = 0
    for place, number in enumerate(row):
        if total + number > bound:
            cut.append(place)
            total = 0
        total += number
    return cut


def fewest_pieces(row, bound):
    """The fewest pieces, each with a sum of at most the bound, or None."""
    # No cut gets further with as many pieces than the one with the longest pieces.
    cut = long_cut(row, bound)
    if cut is None:
        return None
    return len(cut) + 1


def least_greatest(row, many):
    """The least greatest sum of just so many pieces, and the first cut that has it."""
    check_many(row, many)
    bound = least_bound(row, many)
    return (bound, earliest_cut(row, many, bound))


def least_bound(row, many):
    """The least bound within which the row can be cut into so many pieces."""
    # Fewer pieces than asked for are enough: to part one of them makes no sum greater.
    low = max(row)
    high = sum(row)
    while low < high:
        middle = (low + high) // 2
        if fewest_pieces(row, middle) <= many:
            high = middle
        else:
            low = middle + 1
    return low


def earliest_cut(row, many, bound):
    """The first cut, as lists are ordered, into so many pieces within a bound that allows one."""
    # Going from the end with pieces as long as can be makes every place as early as
    # it is in any such cut, so no other one can be ordered ahead.
    places = []
    end = len(row)
    for ahead in range(many - 1, 0, -1):
        end = earliest_begin(row, ahead, end, bound)
        places.append(end)
    return places[::-1]


def earliest_begin(row, ahead, end, bound):
    """Where the longest piece up to the end begins that leaves a number to each piece ahead."""
    begin = end - 1
    total = row[begin]
    while begin > ahead and total + row[begin - 1] <= bound:
        begin -= 1
        total += row[begin]
    return begin
