"""Cuts at a price for each piece: they cost their evenness and so many times the price."""

from piecebounds.rows import check_many
from piecebounds.squares import all_even, even_table, first_even_cut, least_evens


def at_price(row, price):
    """The least cost of all cuts, the fewest pieces that have it, and the first cut of so many that has it."""
    table = even_table(row, len(row))
    costs = [even + price * many for many, even in enumerate(least_evens(table), start=1)]
    cost = min(costs)
    many = costs.index(cost) + 1
    return (cost, many, first_even_cut(row, many, table))


def prices(row, many):
    """The lowest and the highest price at which so many pieces have the least cost; None where there is no end."""
    check_many(row, many)
    evens = all_even(row)
    # The steps down grow no greater (point 18), so only one piece more and one less need a look.
    low = 0
    high = None
    if many < len(row):
        low = evens[many - 1] - evens[many]
    if many > 1:
        high = evens[many - 2] - evens[many - 1]
    return (low, high)
