"""Joins and meets of two flats, and what stands square to a flat."""

from flatmeet.errors import OtherSpace
from flatmeet.flats import flat_of, parts
from flatmeet.steps import square_rows


def check_space(one, other):
    if one.many != other.many:
        raise OtherSpace("flats of unlike spaces")


def join(one, other):
    check_space(one, other)
    return flat_of(one.many, one.rows + other.rows)


def square(flat):
    return flat_of(flat.many, square_rows(flat.many, flat.rows))


# What is in both stands square to all that stands square to one of them.
def meet(one, other):
    check_space(one, other)
    return square(join(square(one), square(other)))


def within(one, other):
    check_space(one, other)
    for place, row in enumerate(one.rows):
        if parts(other, row) is None:
            return place
    return None
