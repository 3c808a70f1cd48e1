"""What every function is asked in the tests of promises [2] and [4]: ordinary asks, and asks that are refused."""

import copy

from flatmeet import errors
from flatmeet.flats import flat_of, mirror, paper, parts
from flatmeet.meeting import join, meet, square, within
from flatmeet.single import broken, spanned
from flatmeet.sums import added, box_of, made, product, taken
from given import BAD_COUNTS, NINES, RISING, WAYS

ROOM = [[2, 4, 6], [1, 1, 1]]
WIDE = [[1, 2, 3, 4, 5], [0, 2, -1, 5, 1], [2, 6, 5, 13, 11]]
LONG = [[NINES, RISING, 1, 0], [1, -NINES, RISING, 2]]
LINE = flat_of(3, [[0, 2, 4]])
SHEET = flat_of(3, [[1, 0, 0], [0, 1, 0]])
WHOLE = flat_of(3, [[1, 0, 0], [0, 1, 0], [0, 0, 1]])
NOTHING = flat_of(3, [])
SLANT = flat_of(5, WIDE)
TWO = [((0, 1), 2), ((2, 3), -1)]
ONE = [((0, 1), 2), ((0, 2), -4)]

# function, what is handed in
ASKS = [
    (flat_of, (3, ROOM)),
    (flat_of, (3, SHEET.rows)),
    (flat_of, (3, [])),
    (flat_of, (5, WIDE)),
    (flat_of, (4, LONG)),
    (paper, (3, ROOM)),
    (paper, (5, WIDE)),
    (paper, (3, [])),
    (mirror, (SHEET,)),
    (mirror, (WHOLE,)),
    (mirror, (SLANT,)),
    (mirror, (NOTHING,)),
    (parts, (SHEET, [3, -4, 0])),
    (parts, (SHEET, [3, -4, 1])),
    (parts, (NOTHING, [0, 0, 0])),
    (parts, (SLANT, [1, 4, 2, 9, 6])),
    (join, (LINE, SHEET)),
    (join, (NOTHING, SHEET)),
    (join, (SHEET, NOTHING)),
    (join, (WHOLE, LINE)),
    (meet, (LINE, SHEET)),
    (meet, (WHOLE, SHEET)),
    (meet, (SHEET, WHOLE)),
    (square, (LINE,)),
    (square, (NOTHING,)),
    (square, (SLANT,)),
    (within, (LINE, SHEET)),
    (within, (SHEET, WHOLE)),
    (made, (4, 2, TWO)),
    (made, (4, 2, [((3, 0), 5), ((1, 1), 2), ((1, 0), 0)])),
    (made, (4, 0, [((), 5)])),
    (made, (4, 2, [])),
    (added, (TWO, ONE)),
    (added, (TWO, [])),
    (added, ([], TWO)),
    (added, ([], [])),
    (taken, (TWO, 1)),
    (taken, (TWO, -3)),
    (taken, (TWO, 0)),
    (product, (TWO, ONE)),
    (product, (TWO, [((), 1)])),
    (product, ([((), 1)], TWO)),
    (product, ([], TWO)),
    (box_of, (3, ROOM)),
    (box_of, (3, [])),
    (box_of, (3, [[1, 2, 3]])),
    (spanned, (4, 2, ONE)),
    (spanned, (4, 2, TWO)),
    (spanned, (4, 2, [])),
    (broken, (4, 2, ONE)),
    (broken, (4, 2, TWO)),
]

# many, rows, the place of the first bad row
BAD_ROWS = [
    (1, [[]], 0),
    (1, [[1], [1, 2]], 1),
    (2, [[1], [1, 2, 3]], 0),
    (2, [[1, 2], [1, 2, 3], [1]], 1),
    (3, [[1, 2, 3], [1, 2]], 1),
    (3, [[1, 2, 3], [0, 0, 0], [1, 2, 3, 4]], 2),
    (4, [[1, 2, 3, 4]] * 11 + [[1, 2, 3]], 11),
    (5, [[1, 2, 3, 4, 5, 6], [1, 2, 3, 4, 5]], 0),
    (5, [[0] * 5, [], [0] * 6], 1),
]


def refused_rows(function, *more):
    """What a function refuses as flat_of does, in its order; more is handed in behind the rows."""
    for many in BAD_COUNTS:
        for rows in ([], [[1, 2, 3]], [[1], [1, 2]], [[1] * 6]):
            yield function, (many, rows) + more, errors.BadCount, {}
    for many, rows, place in BAD_ROWS:
        yield function, (many, rows) + more, errors.BadRows, {"place": place}


def refused_sizes(function, least, *more):
    """A bad count, then a bad size; more is handed in behind the size."""
    for many in BAD_COUNTS:
        for size in (0, 1, 2, -1, 7):
            yield function, (many, size) + more, errors.BadCount, {}
    for many in WAYS:
        for size in (least - 1, -1, -NINES, many + 1, 6, NINES):
            yield function, (many, size) + more, errors.BadSize, {}


def refused_places():
    bad = [((0, 3), 1), ((0, -1), 1), ((0,), 1), ((0, 1, 2), 1), ((), 1), ((3, 3), 1), ((0, 3), 0), ((0,), 0),
           ((0, NINES), 1), ((-NINES, 1), 1), ((5, 6), 1)]
    for term in bad:
        for terms in ([term], [((0, 1), 1), term], [term, ((0, 1), 1)], [((1, 1), 1), ((1, 0), 2), term]):
            yield made, (3, 2, terms), errors.BadPlaces, {}
    for many in WAYS:
        yield made, (many, 1, [((many,), 1)]), errors.BadPlaces, {}
        yield made, (many, 0, [((0,), 1)]), errors.BadPlaces, {}
        yield made, (many, many, [(tuple(range(1, many + 1)), 1)]), errors.BadPlaces, {}


def refused_beside_a_flat(function):
    """A row of another length than the flat's n."""
    for many in WAYS:
        for rows in ([], [[1] * many]):
            for row in ([1] * (many - 1), [1] * (many + 1), [0] * (many + 1), [], [0] * 12):
                yield function, (flat_of(many, rows), row), errors.BadRow, {}


def refused_beside_one_another(function):
    for many in WAYS:
        for other in WAYS:
            if many != other:
                for rows, more in (([], []), ([[1] * many], [[1] * other]), ([[1] * many], [])):
                    yield function, (flat_of(many, rows), flat_of(other, more)), errors.OtherSpace, {}


def refused():
    """function, what is handed in, the refusal's class, its fields"""
    for function in (flat_of, paper, box_of):
        yield from refused_rows(function)
    yield from refused_beside_a_flat(parts)
    for function in (join, meet, within):
        yield from refused_beside_one_another(function)
    yield from refused_sizes(made, 0, [])
    yield from refused_sizes(made, 0, [((0, 9), 1), ((), 1)])
    yield from refused_places()
    for function in (spanned, broken):
        yield from refused_sizes(function, 1, [])
        yield from refused_sizes(function, 1, [((0,), 1)])


def fresh(handed):
    return copy.deepcopy(handed)


def frozen(value):
    """The value and the kinds in it, as it is now."""
    if isinstance(value, (list, tuple)):
        return (type(value).__name__,) + tuple(frozen(part) for part in value)
    if hasattr(value, "rows"):
        return ("Flat", frozen(value.many), frozen(value.rows))
    return (type(value).__name__, value)


def scramble(value):
    """Change all that can be changed in the value."""
    if isinstance(value, (list, tuple)):
        for part in value:
            scramble(part)
    if isinstance(value, list):
        value.reverse()
        value.append(77)
        value[0] = -99
    if hasattr(value, "rows"):
        scramble(value.rows)
