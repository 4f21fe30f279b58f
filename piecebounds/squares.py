"""The squares of the sums: their sum is the less, the more even a cut is."""

from piecebounds.counted import sums_ahead
from piecebounds.rows import check_many, sums_of


def evenness(row, cut):
    """The sum of the squares of the sums of a cut."""
    return sum([total * total for total in sums_of(row, cut)])


def most_even(row, many):
    """The least evenness of so many pieces, and the first cut that has it."""
    check_many(row, many)
    table = even_table(row, many)
    return (table[many][0], first_even_cut(row, many, table))


def all_even(row):
    """The least evenness of one piece, of two and so on to as many as there are numbers."""
    return least_evens(even_table(row, len(row)))


def least_evens(table):
    """What a table tells of the whole row, for one piece, two and so on."""
    return [evens[0] for evens in table[1:]]


def even_table(row, most):
    """Item [left][begin]: the least evenness of the row from there on, in so many pieces left."""
    # Only such begins have an item as leave a number to each piece.
    ahead = sums_ahead(row)
    table = [[], [(ahead[-1] - before) ** 2 for before in ahead[:-1]]]
    for left in range(2, most + 1):
        fewer = table[left - 1]
        table.append([
            min([(ahead[end] - ahead[begin]) ** 2 + fewer[end] for end in range(begin + 1, len(fewer))])
            for begin in range(len(fewer) - 1)
        ])
    return table


def first_even_cut(row, many, table):
    """The first cut, as lists are ordered, that has the least evenness of so many pieces."""
    ahead = sums_ahead(row)
    cut = []
    begin = 0
    for left in range(many - 1, 0, -1):
        end = begin + 1
        while (ahead[end] - ahead[begin]) ** 2 + table[left][end] > table[left + 1][begin]:
            end += 1
        cut.append(end)
        begin = end
    return cut
