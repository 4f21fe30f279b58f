"""Cuts into so many pieces: how many there are, and the so-manieth of them."""

from piecebounds.errors import NoPlace
from piecebounds.rows import check_many, is_within


def all_cuts(row, many):
    """How many cuts the row has into so many pieces."""
    check_many(row, many)
    told = 1
    for taken in range(1, many):
        # Nothing is lost by the division: each step tells the number for one piece more.
        told = told * (len(row) - taken) // taken
    return told


def cuts_between(row, many, low, high):
    """How many cuts into so many pieces have all sums from low to high."""
    check_many(row, many)
    return count_ways(end_ranges(row, low, high), many)[many][0]


def cut_at(row, many, low, high, place):
    """The cut with that number, from 0, among those with all sums from low to high."""
    check_many(row, many)
    ranges = end_ranges(row, low, high)
    ways = count_ways(ranges, many)
    if not is_within(place, 0, ways[many][0] - 1):
        # The message does not show the thing: it may be nested too deep to be shown.
        raise NoPlace("the place must be a whole number from 0 on, below the number of such cuts")
    cut = []
    end = 0
    skipped = 0
    for left in range(many - 1, 0, -1):
        end = ranges[end][0]
        while skipped + ways[left][end] <= place:
            skipped += ways[left][end]
            end += 1
        cut.append(end)
    return cut


def end_ranges(row, low, high):
    """For each begin of a piece the first end that gives a sum from low to high, and one behind the last."""
    # With no number below 0 such ends stand side by side and move on as the begin does.
    ahead = sums_ahead(row)
    ranges = []
    first = behind = 1
    for begin in range(len(row)):
        first = max(first, begin + 1)
        while first <= len(row) and ahead[first] - ahead[begin] < low:
            first += 1
        behind = max(behind, first)
        while behind <= len(row) and ahead[behind] - ahead[begin] <= high:
            behind += 1
        ranges.append((first, behind))
    return ranges


def sums_ahead(row):
    """For each place, the one behind the last number too, the sum of what stands ahead of it."""
    sums = [0]
    for number in row:
        sums.append(sums[-1] + number)
    return sums


def count_ways(ranges, many):
    """Item [left][begin]: in how many ways the row from there on is cut into so many pieces left."""
    # Where nothing is left of the row there is one way to cut it into no pieces.
    ways = [[0] * len(ranges) + [1]]
    for left in range(many):
        fewer = ways[left]
        ways.append([sum(fewer[first:behind]) for first, behind in ranges] + [0])
    return ways
