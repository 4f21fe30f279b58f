"""Sums of pieces as near one another as can be."""

from piecebounds.counted import cut_at, cuts_between, sums_ahead
from piecebounds.greatest import least_greatest
from piecebounds.least import greatest_least
from piecebounds.rows import check_many


def least_spread(row, many):
    """The least difference of the greatest and the least sum of so many pieces, and the first cut that has it."""
    check_many(row, many)
    bounds = near_bounds(row, many)
    spread = min([high - low for low, high in bounds])
    # Between bounds so near each cut has just this spread, so the first one there is enough.
    cuts = [cut_at(row, many, low, high, 0) for low, high in bounds if high - low == spread]
    return (spread, min(cuts))


def near_bounds(row, many):
    """For each sum that can be the least one: it, and the least that the greatest one can then be."""
    sums = stretch_sums(row)
    greatest_low = greatest_least(row, many)[0]
    least_high = least_greatest(row, many)[0]
    lows = [low for low in sums if low <= greatest_low]
    highs = [high for high in sums if high >= least_high]
    bounds = []
    at = 0
    for low in lows:
        # A greater low leaves no more cuts, so what was too little for the one ahead stays so.
        while cuts_between(row, many, low, highs[at]) == 0:
            at += 1
        bounds.append((low, highs[at]))
    return bounds


def stretch_sums(row):
    """The sums of all stretches of the row, rising, each one once."""
    ahead = sums_ahead(row)
    return sorted({ahead[end] - ahead[begin] for end in range(1, len(ahead)) for begin in range(end)})
