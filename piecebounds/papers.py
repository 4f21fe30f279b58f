"""Papers: what shows that no cut into so many pieces is better, and what such a thing says."""

from piecebounds.greatest import least_greatest, long_cut
from piecebounds.least import greatest_least, short_ends
from piecebounds.rows import are_places, check_many, is_within


def paper_of_greatest(row, many):
    """A paper that says just the least greatest sum of so many pieces."""
    bound = least_greatest(row, many)[0]
    if bound == max(row):
        return ("number", row.index(bound))
    # Below the bound even the longest pieces are too many, and each of them
    # reaches the bound together with the number that didn't fit into it.
    begins = [0] + long_cut(row, bound - 1)
    return ("stretches", [(begins[at], begins[at + 1] + 1) for at in range(many)])


def says_greatest(row, many, thing):
    """What a thing, which may be anything, says that the greatest sum is no less than, or None."""
    check_many(row, many)
    if not isinstance(thing, tuple) or len(thing) != 2 or not isinstance(thing[0], str):
        return None
    word, shown = thing
    if word == "number" and is_within(shown, 0, len(row) - 1):
        return row[shown]
    if word == "stretches" and are_stretches(row, many, shown):
        return min([sum(row[begin:end]) for begin, end in shown])
    return None


def are_stretches(row, many, thing):
    """Whether a thing, which may be anything, is a list of as many stretches as there are pieces."""
    if not isinstance(thing, list) or len(thing) != many:
        return False
    least = 0
    for stretch in thing:
        if not is_stretch(row, stretch, least):
            return False
        # Two may share a number: a place that cuts one of them still cuts no other.
        least = stretch[1] - 1
    return True


def is_stretch(row, thing, least):
    """Whether a thing, which may be anything, is a stretch of two numbers or more, begun at the least or behind."""
    if not isinstance(thing, tuple) or len(thing) != 2:
        return False
    begin, end = thing
    return is_within(end, 2, len(row)) and is_within(begin, least, end - 2)


def paper_of_least(row, many):
    """A paper that says just the greatest least sum of so many pieces."""
    bound = greatest_least(row, many)[0]
    # Above the bound even the shortest pieces are too few, and none of them gets there without its last number.
    return [end - 1 for end in short_ends(row, bound + 1)]


def says_least(row, many, thing):
    """What a thing, which may be anything, says that the least sum is no greater than, or None."""
    check_many(row, many)
    if not are_places(row, thing, 0) or len(thing) >= many:
        return None
    begins = [0] + [place + 1 for place in thing]
    return max([sum(row[begin:end]) for begin, end in zip(begins, thing + [len(row)])])
