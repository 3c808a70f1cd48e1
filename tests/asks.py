"""What every function is asked in the tests of promises [2] and [4]: ordinary asks, and asks that are refused."""

import copy

from flatmeet import errors
from flatmeet.boxes import box, flat_of_box
from flatmeet.crossing import crossed
from flatmeet.dropping import apart, dropped
from flatmeet.equations import answer, bar, idle
from flatmeet.flats import flat_of, mirror, paper, parts
from flatmeet.hooks import hooked, turned_over, weighed_sums
from flatmeet.meeting import join, meet, square, within
from flatmeet.moves import behind, determinant, lesser, moved, moved_sum, turned_back
from flatmeet.rows import less, plus, times, weighed
from flatmeet.single import broken, spanned
from flatmeet.sums import added, box_of, made, product, taken
from flatmeet.texts import rows_text, sum_text
from given import BAD_COUNTS, NINES, RISING, WAYS

ROOM = [[2, 4, 6], [1, 1, 1]]
WIDE = [[1, 2, 3, 4, 5], [0, 2, -1, 5, 1], [2, 6, 5, 13, 11]]
LONG = [[NINES, RISING, 1, 0], [1, -NINES, RISING, 2]]
LINE = flat_of(3, [[0, 2, 4]])
SHEET = flat_of(3, [[1, 0, 0], [0, 1, 0]])
WHOLE = flat_of(3, [[1, 0, 0], [0, 1, 0], [0, 0, 1]])
NOTHING = flat_of(3, [])
SLANT = flat_of(5, WIDE)
TWO = [((0, 1), 2), ((2, 3), -1)]
ONE = [((0, 1), 2), ((0, 2), -4)]
TABLE = [[1, 2, 3], [4, 5, 6], [7, 8, 10]]
ONES = [[1, 0, 0], [0, 1, 0], [0, 0, 1]]

# function, what is handed in
ASKS = [
    (plus, ([1, 2], [3, 4])),
    (less, ([1, 2], [3, 4])),
    (times, ([1, 2], 3)),
    (weighed, ([1, 2], [3, 4])),
    (flat_of, (3, ROOM)),
    (flat_of, (3, SHEET.rows)),
    (flat_of, (3, [])),
    (flat_of, (5, WIDE)),
    (flat_of, (4, LONG)),
    (paper, (3, ROOM)),
    (paper, (5, WIDE)),
    (paper, (3, [])),
    (mirror, (SHEET,)),
    (mirror, (WHOLE,)),
    (mirror, (SLANT,)),
    (mirror, (NOTHING,)),
    (parts, (SHEET, [3, -4, 0])),
    (parts, (SHEET, [3, -4, 1])),
    (parts, (NOTHING, [0, 0, 0])),
    (parts, (SLANT, [1, 4, 2, 9, 6])),
    (join, (LINE, SHEET)),
    (join, (NOTHING, SHEET)),
    (join, (SHEET, NOTHING)),
    (join, (WHOLE, LINE)),
    (meet, (LINE, SHEET)),
    (meet, (WHOLE, SHEET)),
    (meet, (SHEET, WHOLE)),
    (square, (LINE,)),
    (square, (NOTHING,)),
    (square, (SLANT,)),
    (within, (LINE, SHEET)),
    (within, (SHEET, WHOLE)),
    (made, (4, 2, TWO)),
    (made, (4, 2, [((3, 0), 5), ((1, 1), 2), ((1, 0), 0)])),
    (made, (4, 0, [((), 5)])),
    (made, (4, 2, [])),
    (added, (TWO, ONE)),
    (added, (TWO, [])),
    (added, ([], TWO)),
    (added, ([], [])),
    (taken, (TWO, 1)),
    (taken, (TWO, -3)),
    (taken, (TWO, 0)),
    (product, (TWO, ONE)),
    (product, (TWO, [((), 1)])),
    (product, ([((), 1)], TWO)),
    (product, ([], TWO)),
    (box_of, (3, ROOM)),
    (box_of, (3, [])),
    (box_of, (3, [[1, 2, 3]])),
    (spanned, (4, 2, ONE)),
    (spanned, (4, 2, TWO)),
    (spanned, (4, 2, [])),
    (broken, (4, 2, ONE)),
    (broken, (4, 2, TWO)),
    (box, (SHEET,)),
    (box, (NOTHING,)),
    (box, (SLANT,)),
    (flat_of_box, (4, 2, ONE)),
    (flat_of_box, (3, 1, [((0,), 1)])),
    (hooked, ([1, 2, 3, 4], TWO)),
    (hooked, ([1, 0, 0], [((0,), 5)])),
    (hooked, ([], [])),
    (turned_over, (4, TWO)),
    (turned_over, (3, [((), 1)])),
    (turned_over, (3, [])),
    (weighed_sums, (TWO, ONE)),
    (weighed_sums, (TWO, [])),
    (crossed, (4, TWO, ONE)),
    (crossed, (4, TWO, [((0, 1, 2, 3), 1)])),
    (crossed, (4, [], TWO)),
    (moved, (TABLE, [1, -2, 3])),
    (moved, (ONES, [1, -2, 3])),
    (moved_sum, (TABLE, ONE)),
    (moved_sum, (ONES, ONE)),
    (moved_sum, (TABLE, [((), 4)])),
    (moved_sum, (TABLE, [])),
    (determinant, (TABLE,)),
    (behind, (TABLE, ONES)),
    (behind, (ONES, TABLE)),
    (behind, (TABLE, TABLE)),
    (lesser, (TABLE, 0)),
    (lesser, (TABLE, 1)),
    (lesser, (TABLE, 2)),
    (lesser, (TABLE, 3)),
    (turned_back, (TABLE,)),
    (turned_back, (ONES,)),
    (turned_back, ([[4]],)),
    (answer, (3, ROOM, [4, 1])),
    (answer, (3, ROOM + [[0, 0, 0]], [4, 1, 1])),
    (answer, (3, [], [])),
    (answer, (3, ONES, [4, -5, 6])),
    (bar, (3, ROOM, [4, 1])),
    (bar, (3, ROOM + [[0, 0, 0]], [4, 1, 1])),
    (bar, (3, ROOM + [[3, 5, 7]], [4, 1, 1])),
    (idle, (3, ROOM)),
    (idle, (3, [])),
    (idle, (5, WIDE)),
    (dropped, (SHEET, [4, -5, 6])),
    (dropped, (LINE, [1, 1, 1])),
    (dropped, (NOTHING, [1, 2, 3])),
    (dropped, (WHOLE, [1, 2, 3])),
    (apart, (LINE, [1, 1, 1])),
    (apart, (NOTHING, [1, 2, 3])),
    (rows_text, (ROOM,)),
    (rows_text, ([],)),
    (sum_text, (TWO,)),
    (sum_text, ([],)),
]

# many, rows, the place of the first bad row
BAD_ROWS = [
    (1, [[]], 0),
    (1, [[1], [1, 2]], 1),
    (2, [[1], [1, 2, 3]], 0),
    (2, [[1, 2], [1, 2, 3], [1]], 1),
    (3, [[1, 2, 3], [1, 2]], 1),
    (3, [[1, 2, 3], [0, 0, 0], [1, 2, 3, 4]], 2),
    (4, [[1, 2, 3, 4]] * 11 + [[1, 2, 3]], 11),
    (5, [[1, 2, 3, 4, 5, 6], [1, 2, 3, 4, 5]], 0),
    (5, [[0] * 5, [], [0] * 6], 1),
]


def refused_rows(function, *more):
    """What a function refuses as flat_of does, in its order; more is handed in behind the rows."""
    for many in BAD_COUNTS:
        for rows in ([], [[1, 2, 3]], [[1], [1, 2]], [[1] * 6]):
            yield function, (many, rows) + more, errors.BadCount, {}
    for many, rows, place in BAD_ROWS:
        yield function, (many, rows) + more, errors.BadRows, {"place": place}


def refused_sizes(function, least, *more):
    """A bad count, then a bad size; more is handed in behind the size."""
    for many in BAD_COUNTS:
        for size in (0, 1, 2, -1, 7):
            yield function, (many, size) + more, errors.BadCount, {}
    for many in WAYS:
        for size in (least - 1, -1, -NINES, many + 1, 6, NINES):
            yield function, (many, size) + more, errors.BadSize, {}


def refused_places():
    bad = [((0, 3), 1), ((0, -1), 1), ((0,), 1), ((0, 1, 2), 1), ((), 1), ((3, 3), 1), ((0, 3), 0), ((0,), 0),
           ((0, NINES), 1), ((-NINES, 1), 1), ((5, 6), 1)]
    for term in bad:
        for terms in ([term], [((0, 1), 1), term], [term, ((0, 1), 1)], [((1, 1), 1), ((1, 0), 2), term]):
            yield made, (3, 2, terms), errors.BadPlaces, {}
    for many in WAYS:
        yield made, (many, 1, [((many,), 1)]), errors.BadPlaces, {}
        yield made, (many, 0, [((0,), 1)]), errors.BadPlaces, {}
        yield made, (many, many, [(tuple(range(1, many + 1)), 1)]), errors.BadPlaces, {}


def refused_beside_a_flat(function):
    """A row of another length than the flat's n."""
    for many in WAYS:
        for rows in ([], [[1] * many]):
            for row in ([1] * (many - 1), [1] * (many + 1), [0] * (many + 1), [], [0] * 12):
                yield function, (flat_of(many, rows), row), errors.BadRow, {}


def refused_beside_one_another(function):
    for many in WAYS:
        for other in WAYS:
            if many != other:
                for rows, more in (([], []), ([[1] * many], [[1] * other]), ([[1] * many], [])):
                    yield function, (flat_of(many, rows), flat_of(other, more)), errors.OtherSpace, {}


# Lists that are no table.
NO_TABLES = [
    [],
    [[]],
    [[1, 2]],
    [[1], [2]],
    [[1, 2], [3]],
    [[1], [2, 3]],
    [[1, 2], [3, 4, 5]],
    [[1, 2, 3], [4, 5, 6]],
    [[1, 2], [3, 4], [5, 6]],
    [[0] * 5] * 4,
    [[0] * 4] * 5,
    [[0] * 5] * 4 + [[0] * 4],
    [[0] * 6] + [[0] * 5] * 4,
    [[1] * 6] * 6,
    [[1] * 5] * 6,
    [[1] * 12] * 12,
]


def table_of(many):
    return [[way + place for way in range(many)] for place in range(many)]


def refused_tables():
    for table in NO_TABLES:
        for row in ([1, 2], [], [1] * 6):
            yield moved, (table, row), errors.BadTable, {}
        for some in ([], [((0,), 1)], [((9,), 1)]):
            yield moved_sum, (table, some), errors.BadTable, {}
        for other in ([[1, 2], [3, 4]], [[1]], [[1], [2]], []):
            yield behind, (table, other), errors.BadTable, {}
            yield behind, (other, table), errors.BadTable, {}
        for size in (0, 1, -1, 9):
            yield lesser, (table, size), errors.BadTable, {}
        yield determinant, (table,), errors.BadTable, {}
        yield turned_back, (table,), errors.BadTable, {}


def refused_beside_a_table():
    for many in WAYS:
        for row in ([1] * (many - 1), [0] * (many + 1), [1] * 12):
            yield moved, (table_of(many), row), errors.BadRow, {}
        for some in ([((many,), 1)], [((0,), 1), ((many,), -1)], [((0, many), 1)], [((4, 5), 1)]):
            yield moved_sum, (table_of(many), some), errors.BadPlaces, {}
        for other in WAYS:
            if other != many:
                yield behind, (table_of(many), table_of(other)), errors.NotAlike, {}
        for size in (-1, many + 1, 6, NINES, -NINES):
            yield lesser, (table_of(many), size), errors.BadSize, {}


def refused_boxes():
    yield from refused_sizes(flat_of_box, 1, [])
    yield from refused_sizes(flat_of_box, 1, [((0,), 1)])
    for many in WAYS:
        for size in range(1, many + 1):
            yield flat_of_box, (many, size, []), errors.ZeroSum, {}
    for some in (TWO, [((0, 2), 1), ((1, 3), NINES)]):
        rule = broken(4, 2, some)
        yield flat_of_box, (4, 2, some), errors.NoBox, {"left": rule[0], "right": rule[1]}


def refused_sums():
    for row, some in (([], [((0,), 1)]), ([1, 2], TWO), ([1, 2, 3], TWO), ([0, 0], [((0, 1), 1), ((0, 2), 1)])):
        yield hooked, (row, some), errors.BadRow, {}
    for many in BAD_COUNTS:
        for some in ([], TWO):
            yield turned_over, (many, some), errors.BadCount, {}
            yield crossed, (many, some, ONE), errors.BadCount, {}
            yield crossed, (many, [], some), errors.BadCount, {}


def refused_ends():
    for function in (answer, bar):
        for ends in ([], [1], [1, 2, 3]):
            yield from refused_rows(function, ends)
        for many in WAYS:
            for rows, ends in (([], [0]), ([[1] * many], []), ([[1] * many], [1, 2]), ([[0] * many] * 12, [0] * 11)):
                yield function, (many, rows, ends), errors.NotAlike, {}
    yield from refused_rows(idle)


def refused():
    """function, what is handed in, the refusal's class, its fields"""
    for function in (plus, less, weighed):
        yield function, ([1, 2], [1]), errors.NotAlike, {}
    for function in (flat_of, paper, box_of):
        yield from refused_rows(function)
    for function in (parts, dropped, apart):
        yield from refused_beside_a_flat(function)
    for function in (join, meet, within):
        yield from refused_beside_one_another(function)
    yield from refused_sizes(made, 0, [])
    yield from refused_sizes(made, 0, [((0, 9), 1), ((), 1)])
    yield from refused_places()
    for function in (spanned, broken):
        yield from refused_sizes(function, 1, [])
        yield from refused_sizes(function, 1, [((0,), 1)])
    yield from refused_boxes()
    yield from refused_sums()
    yield from refused_tables()
    yield from refused_beside_a_table()
    yield from refused_ends()


def fresh(handed):
    return copy.deepcopy(handed)


def frozen(value):
    """The value and the kinds in it, as it is now."""
    if isinstance(value, (list, tuple)):
        return (type(value).__name__,) + tuple(frozen(part) for part in value)
    if hasattr(value, "rows"):
        return ("Flat", frozen(value.many), frozen(value.rows))
    return (type(value).__name__, value)


def scramble(value):
    """Change all that can be changed in the value."""
    if isinstance(value, (list, tuple)):
        for part in value:
            scramble(part)
    if isinstance(value, list):
        value.reverse()
        value.append(77)
        value[0] = -99
    if hasattr(value, "rows"):
        scramble(value.rows)
