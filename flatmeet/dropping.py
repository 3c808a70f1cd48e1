"""Dropping a row square onto a flat, and how far it is from it."""

from flatmeet.equations import answer
from flatmeet.rows import less, times, weighed
from flatmeet.steps import check_row, lowest, mixed


# The rows of a frame don't hang on one another, so these equations always have their one answer.
def shares_of(rows, row):
    if not rows:
        return (1, [])
    weights = [[weighed(one, other) for other in rows] for one in rows]
    return answer(len(rows), weights, [weighed(one, row) for one in rows])


def dropped(flat, row):
    check_row(flat.many, row)
    found = shares_of(flat.rows, row)
    return lowest(found[0], mixed(flat.many, found[1], flat.rows))


def apart(flat, row):
    found = dropped(flat, row)
    bottom = found[0]
    difference = less(times(row, bottom), found[1])
    told = lowest(bottom * bottom, [weighed(difference, difference)])
    return (told[1][0], told[0])
