"""Boxes of flats, and the flat of a sum that is one box."""

from flatmeet.errors import NoBox, ZeroSum
from flatmeet.flats import flat_of
from flatmeet.single import broken, spanned
from flatmeet.sums import box_of


def box(flat):
    return box_of(flat.many, flat.rows)


# spanned comes first: it refuses a bad count and a bad size, ahead of the sum 0.
def flat_of_box(many, size, some):
    rows = spanned(many, size, some)
    if not some:
        raise ZeroSum("the sum 0 is the box of many flats")
    if rows is None:
        rule = broken(many, size, some)
        raise NoBox(rule[0], rule[1])
    return flat_of(many, rows)
