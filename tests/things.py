"""What several tests need: things of all kinds, rows, and all cuts gone through."""

from itertools import combinations, product

from piecebounds.errors import CutError, NoCommand, NoMany, NoNumber, NoPlace, NoText

KINDS = (NoMany, NoPlace, NoNumber, NoText, NoCommand)

DEEP = 20000


class Stranger:
    """An object that fails at whatever is asked of it but its class."""

    def fail(self, *others):
        raise AssertionError("a thing of another class was asked more than its class")

    __eq__ = __ne__ = __lt__ = __le__ = __gt__ = __ge__ = fail
    __hash__ = __len__ = __bool__ = __iter__ = __getitem__ = __contains__ = fail
    __int__ = __index__ = __add__ = __radd__ = __sub__ = __repr__ = __str__ = fail


def nested(wrap):
    thing = wrap(1)
    for turn in range(DEEP):
        thing = wrap(thing)
    return thing


def in_itself():
    thing = []
    thing.append(thing)
    return thing


def deep_things():
    """Pairs of a label and a thing; the things themselves are too deep to be shown."""
    return [
        ("deep lists", nested(lambda thing: [thing])),
        ("deep tuples", nested(lambda thing: (thing,))),
        ("deep dicts", nested(lambda thing: {1: thing})),
        ("deep lists and tuples", nested(lambda thing: [(thing,)])),
        ("deep tuples and lists", nested(lambda thing: ([thing],))),
        ("list in itself", in_itself()),
    ]


def no_numbers():
    """Pairs of a label and a thing that is no whole number."""
    return deep_things() + [
        ("True", True), ("False", False), ("None", None),
        ("empty text", ""), ("text", "1"), ("bytes", b"1"),
        ("empty list", []), ("list", [1]), ("empty tuple", ()), ("tuple", (1,)),
        ("empty dict", {}), ("dict", {1: 1}), ("set", {1}), ("range", range(1, 2)),
        ("object", object()), ("stranger", Stranger()), ("class", int), ("function", len),
    ]


def no_lists():
    """Pairs of a label and a thing that is no list."""
    things = no_numbers() + [
        ("nought", 0), ("number", 1), ("tuple of numbers", (1, 2)), ("dict of numbers", {1: 2, 2: 3}),
        ("text of figures", "12"), ("bytes of numbers", b"\x01\x02"),
    ]
    return [(label, thing) for label, thing in things if not isinstance(thing, list)]


def small_rows(numbers, longest):
    """All rows of these numbers, from one number to the longest."""
    return [list(row) for length in range(1, longest + 1) for row in product(numbers, repeat=length)]


def some_numbers(seed, many, limit):
    """So many numbers from 0 to the limit that look like chance and are always the same."""
    numbers = []
    for turn in range(many):
        seed = (seed * 6364136223846793005 + 1442695040888963407) % 2 ** 64
        numbers.append((seed >> 8) % (limit + 1))
    return numbers


def cuts_into(length, many):
    """All cuts of a row of that length into so many pieces, as lists are ordered."""
    return [list(places) for places in combinations(range(1, length), many - 1)]


def all_cuts_of(length):
    return [cut for many in range(1, length + 1) for cut in cuts_into(length, many)]


def slow_sums(row, cut):
    """The sums of the pieces, number by number and without the program."""
    sums = [0]
    for place, number in enumerate(row):
        if place in cut:
            sums.append(0)
        sums[-1] += number
    return sums


def slow_ahead(row):
    """The sums of the first numbers of the row: of none, of one and so on to all."""
    return [sum(row[:place]) for place in range(len(row) + 1)]


def table_of(row, worst, best):
    """table[many][begin]: the best worst sum of the row from there on in so many pieces.

    With max and min this is the least greatest sum, with min and max the greatest least one.
    """
    length = len(row)
    ahead = slow_ahead(row)
    table = [None, [ahead[length] - ahead[begin] for begin in range(length)]]
    for many in range(2, length + 1):
        table.append([
            best(worst(ahead[place] - ahead[begin], table[many - 1][place])
                 for place in range(begin + 1, length - many + 2))
            for begin in range(length - many + 1)
        ])
    return table


def first_cut_by_table(row, many, table, worst):
    """The first cut into so many pieces that has the best worst sum."""
    bound = table[many][0]
    ahead = slow_ahead(row)
    cut = []
    begin = 0
    for left in range(many - 1, 0, -1):
        begin = next(place for place in range(begin + 1, len(row) - left + 1)
                     if worst(ahead[place] - ahead[begin], table[left][place], bound) == bound)
        cut.append(begin)
    return cut


def slow_evenness(row, cut):
    return sum(total ** 2 for total in slow_sums(row, cut))


def slow_most_even(row, many):
    return min((slow_evenness(row, cut), cut) for cut in cuts_into(len(row), many))


def even_ends(row):
    """table[many][end]: the least evenness of the row up to that end in so many pieces, None where there is none."""
    ahead = slow_ahead(row)
    table = [[0] + [None] * len(row)]
    for many in range(1, len(row) + 1):
        fewer = table[-1]
        table.append([min(((ahead[end] - ahead[begin]) ** 2 + fewer[begin] for begin in range(end)
                           if fewer[begin] is not None), default=None) for end in range(len(row) + 1)])
    return table


def evens_by_table(row):
    return [ends[len(row)] for ends in even_ends(row)[1:]]


def first_even_by_table(row, many, turned):
    """The first cut with the least evenness; `turned` is what even_ends tells of the row turned round."""
    # What the turned row has up to an end is what the row has from a place on.
    length = len(row)
    cut = []
    begin = 0
    for left in range(many - 1, 0, -1):
        least = turned[left + 1][length - begin]
        begin = next(place for place in range(begin + 1, length - left + 1)
                     if sum(row[begin:place]) ** 2 + turned[left][length - place] == least)
        cut.append(begin)
    return cut


def rows_for_squares():
    """Short rows of all kinds: with noughts, with like numbers, with one great among small."""
    great = [[1, 1, 50, 1, 1, 1], [50, 1, 2, 1, 3], [1, 0, 1, 2, 50], [0, 0, 10 ** 12, 0, 1, 0, 1]]
    like = [[value] * length for value in (0, 1, 10 ** 12) for length in (1, 2, 5, 8)]
    more = [some_numbers(seed, 8, limit) for seed in range(6) for limit in (2, 9, 10 ** 12)]
    return small_rows((0, 1, 2), 5) + small_rows((0, 3, 4, 9), 4) + great + like + more


def rows_of_120():
    """Rows as long and numbers as great as the document lets them be, one with many noughts."""
    noughts = [0 if place % 3 else number for place, number in enumerate(some_numbers(3, 120, 10 ** 12))]
    return [some_numbers(1, 120, 10 ** 12), noughts, [10 ** 12] * 120]


def check_kind(case, kind, function, arguments):
    """The refusal is of this kind and of no other."""
    with case.assertRaises(kind) as caught:
        function(*arguments)
    case.assertIsInstance(caught.exception, CutError)
    case.assertIsInstance(caught.exception, ValueError)
    for other in KINDS:
        case.assertEqual(isinstance(caught.exception, other), other is kind)


def check_refused(case, kind, function, arguments):
    """The refusal is of this kind and of no other; the row, handed in first, stays as it is."""
    before = list(arguments[0])
    check_kind(case, kind, function, arguments)
    case.assertEqual(arguments[0], before)


def no_manys(row):
    """Pairs of a label and a thing that is no number of pieces of the row."""
    numbers = (0, -1, -len(row), len(row) + 1, len(row) + 2, 10 ** 30, -10 ** 30)
    return [(str(many), many) for many in numbers] + no_numbers()


def check_no_many(case, function, more):
    """Point 7; `more` are the arguments that come behind the number of pieces."""
    for row in ([5], [0, 0], [3, 1, 2], [1] * 120):
        for label, many in no_manys(row):
            with case.subTest(function=function.__name__, many=label, length=len(row)):
                check_refused(case, NoMany, function, [row, many] + more)


def lists_in(thing):
    """All lists in what was told, itself too."""
    found = [thing] if isinstance(thing, list) else []
    if isinstance(thing, (list, tuple)):
        for part in thing:
            found += lists_in(part)
    return found


def check_own(case, function, arguments):
    """Point 1: nothing handed in is changed or kept, and what is told is the asker's own.

    `arguments` is called to make the arguments anew.
    """
    handed = arguments()
    told = function(*handed)
    case.assertEqual(handed, arguments())

    for thing in lists_in(handed):
        thing[:] = [99, 98, 97]
    expected = function(*arguments())
    case.assertEqual(told, expected)

    handed = arguments()
    found = lists_in(function(*handed))
    case.assertEqual(len({id(one) for one in found}), len(found))
    for one in found:
        one[:] = ["spoiled"]
    case.assertEqual(handed, arguments())
    case.assertEqual(function(*handed), expected)
    case.assertEqual(function(*arguments()), expected)
