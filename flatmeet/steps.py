"""Steps that the other modules share; nothing here is promised to an asker."""

from flatmeet.errors import BadCount, BadRow, BadRows, BadSize, NotAlike

MOST_WAYS = 5


def check_alike(one, other):
    if len(one) != len(other):
        raise NotAlike("lists of unlike lengths")


# zip by itself would drop the tail of the longer list in silence.
def pairs(one, other):
    check_alike(one, other)
    return list(zip(one, other))


def check_count(many):
    if many < 1 or many > MOST_WAYS:
        raise BadCount("a space has 1 to 5 ways")


def check_rows(many, rows):
    check_count(many)
    for place, row in enumerate(rows):
        if len(row) != many:
            raise BadRows(place)


def check_row(many, row):
    if len(row) != many:
        raise BadRow("a row has a number for each way")


def check_size(least, most, size):
    if size < least or size > most:
        raise BadSize("no size of this space")


def places_of(many, size):
    told = [()]
    while size > 0:
        longer = []
        for places in told:
            least = places[-1] + 1 if places else 0
            longer.extend([places + (number,) for number in range(least, many)])
        told = longer
        size -= 1
    return told


def units(many):
    return [[1 if way == place else 0 for way in range(many)] for place in range(many)]


# The sum of the rows, each taken as often as told; width is asked for since there may be no row.
def mixed(width, often, rows):
    told = [0] * width
    for many, row in pairs(often, rows):
        told = [before + many * number for before, number in zip(told, row)]
    return told


def common_divisor(numbers):
    common = 0
    for number in numbers:
        rest = abs(number)
        while rest != 0:
            before = common
            common = rest
            rest = before % rest
    return common


def lowest(bottom, tops):
    common = common_divisor([bottom] + tops)
    return (bottom // common, [top // common for top in tops])


# The common divisor of two numbers, and how often each of them is taken to make it.
def bezout(one, other):
    first = [one, 1, 0]
    second = [other, 0, 1]
    while second[0] != 0:
        often = first[0] // second[0]
        rest = [left - often * right for left, right in zip(first, second)]
        first = second
        second = rest
    if first[0] < 0:
        first = [-number for number in first]
    return first


# How often each of the numbers is taken to make their common divisor.
def makers(numbers):
    common = 0
    told = []
    for number in numbers:
        found = bezout(common, number)
        common = found[0]
        told = [found[1] * often for often in told] + [found[2]]
    return told


# Each row but the one at top gets 0 at the way. All numbers are determinants of the rows that came in, so each of
# them is a multiple of the bottom before, and none has more figures than such a determinant.
def swept(rows, top, way, bottom):
    chosen = rows[top]
    head = chosen[way]
    told = []
    for place, row in enumerate(rows):
        if place == top:
            told.append(chosen)
        else:
            told.append([(head * left - row[way] * right) // bottom for left, right in zip(row, chosen)])
    return told


# Rows swept clean: a bottom above 0, the heads, and as many lines as rows came in, each a sum of these. The lines at
# the front, one for each head, have the bottom at their own head and 0 at all others; those behind have 0 at each way.
class Cleared:

    def __init__(self, bottom, heads, lines):
        self.bottom = bottom
        self.heads = heads
        self.lines = lines


# What stands in a row behind its first many numbers is carried along.
def cleared(many, rows):
    lines = [list(row) for row in rows]
    heads = []
    bottom = 1
    for way in range(many):
        top = len(heads)
        found = [place for place in range(top, len(lines)) if lines[place][way] != 0]
        if found:
            lines = lines[:top] + [lines[found[0]]] + lines[top:found[0]] + lines[found[0] + 1:]
            lines = swept(lines, top, way, bottom)
            bottom = lines[top][way]
            heads.append(way)
    if bottom < 0:
        return Cleared(-bottom, heads, [[-number for number in line] for line in lines])
    return Cleared(bottom, heads, lines)


# As many rows as there are ways without a head, that weigh 0 with all the rows, and of which none hangs on the others.
def square_rows(many, rows):
    found = cleared(many, rows)
    told = []
    for way in range(many):
        if way not in found.heads:
            row = [0] * many
            row[way] = found.bottom
            for head, line in zip(found.heads, found.lines):
                row[head] = -line[way]
            told.append(lowest(found.bottom, row)[1])
    return told
