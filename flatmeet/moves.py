"""Moves of the whole space, told by tables."""

from flatmeet.errors import BadPlaces, BadTable
from flatmeet.rows import weighed
from flatmeet.steps import MOST_WAYS, check_alike, check_row, check_size, places_of
from flatmeet.sums import added, box_of, taken


def check_table(table):
    many = len(table)
    if many < 1 or many > MOST_WAYS or any([len(row) != many for row in table]):
        raise BadTable("a table has 1 to 5 rows, each of as many numbers")


def columns_of(table):
    return [[row[way] for row in table] for way in range(len(table))]


def moved(table, row):
    check_table(table)
    check_row(len(table), row)
    return [weighed(line, row) for line in table]


def moved_sum(table, some):
    check_table(table)
    many = len(table)
    for places, number in some:
        if any([way >= many for way in places]):
            raise BadPlaces("a sum of another space")
    # The table leads the row that has 1 at one way and else noughts to its column there.
    columns = columns_of(table)
    told = []
    for places, number in some:
        told = added(told, taken(box_of(many, [columns[way] for way in places]), number))
    return told


def determinant_of(rows):
    if not rows:
        return 1
    whole = box_of(len(rows), rows)
    return whole[0][1] if whole else 0


def determinant(table):
    check_table(table)
    return determinant_of(table)


def behind(one, other):
    check_table(one)
    check_table(other)
    check_alike(one, other)
    columns = columns_of(other)
    return [[weighed(line, column) for column in columns] for line in one]


# The box of some lines has just the determinants of these lines at all places for its numbers.
def lesser(table, size):
    check_table(table)
    many = len(table)
    check_size(0, many, size)
    places = places_of(many, size)
    told = []
    for lines in places:
        numbers = dict(box_of(many, [table[line] for line in lines]))
        told.append([numbers.get(ways, 0) for ways in places])
    return told


def without(table, line, place):
    rows = table[:line] + table[line + 1:]
    return [row[:place] + row[place + 1:] for row in rows]


def turned_back(table):
    check_table(table)
    many = len(table)
    told = []
    for line in range(many):
        turns = [1 - 2 * ((line + place) % 2) for place in range(many)]
        told.append([turns[place] * determinant_of(without(table, place, line)) for place in range(many)])
    return told
