"""Hooks, turning over and weighing of sums of boxes."""

from flatmeet.errors import BadRow
from flatmeet.steps import check_count
from flatmeet.sums import summed, turn_of


def check_reach(row, some):
    for places, number in some:
        if any([way >= len(row) for way in places]):
            raise BadRow("a row has a number at each place of the sum")


def hooked(row, some):
    check_reach(row, some)
    terms = []
    for places, number in some:
        for place, way in enumerate(places):
            turned = number * (1 - 2 * (place % 2))
            terms.append((places[:place] + places[place + 1:], turned * row[way]))
    return summed(terms)


def lacking(many, places):
    return tuple([way for way in range(many) if way not in places])


def turned_over(many, some):
    check_count(many)
    terms = []
    for places, number in some:
        others = lacking(many, places)
        terms.append((others, number * turn_of(places + others)))
    return summed(terms)


def weighed_sums(one, other):
    numbers = dict(other)
    return sum([number * numbers.get(places, 0) for places, number in one])
