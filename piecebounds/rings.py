"""Rows closed to rings: each piece goes from a place to the next one, the last one over the end."""

from piecebounds.greatest import least_greatest
from piecebounds.rows import check_many, sums_of


def ring_sums(row, places):
    """The sums of the pieces that begin at the places, the last one over the end to the first."""
    first = places[0]
    # Turned to begin at its first place the ring is a row, cut at the other places.
    return sums_of(row[first:] + row[:first], [place - first for place in places[1:]])


def ring_least_greatest(row, many):
    """The least greatest sum of so many pieces of the ring, and the first places that have it."""
    check_many(row, many)
    return min([best_from(row, many, first) for first in range(len(row) - many + 1)])


def best_from(row, many, first):
    """The least greatest sum where that place is the first one, and the first such places."""
    # What stands ahead of the first place is always in one piece with the last number.
    opened = row[first:-1] + [row[-1] + sum(row[:first])]
    bound, cut = least_greatest(opened, many)
    return (bound, [first] + [first + place for place in cut])
