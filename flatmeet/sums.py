"""Sums of signed boxes: each a list of places with whole numbers."""

from flatmeet.errors import BadPlaces
from flatmeet.steps import check_count, check_rows, check_size


# 1 or -1, as the exchanges of neighbours that bring the places into order tell; 0 where a number comes twice.
def turn_of(places):
    if len(set(places)) < len(places):
        return 0
    exchanges = 0
    for place, number in enumerate(places):
        exchanges += len([before for before in places[:place] if before > number])
    return 1 - 2 * (exchanges % 2)


def summed(terms):
    numbers = {}
    for places, number in terms:
        key = tuple(sorted(places))
        numbers[key] = numbers.get(key, 0) + turn_of(places) * number
    return [(key, numbers[key]) for key in sorted(numbers) if numbers[key] != 0]


def check_places(many, size, places):
    if len(places) != size or any([number < 0 or number >= many for number in places]):
        raise BadPlaces("no places of this size and space")


def made(many, size, terms):
    check_count(many)
    check_size(0, many, size)
    for places, number in terms:
        check_places(many, size, places)
    return summed(terms)


def added(one, other):
    return summed(one + other)


def taken(some, many):
    return summed([(places, number * many) for places, number in some])


def product(one, other):
    terms = []
    for front, left in one:
        terms.extend([(front + back, left * right) for back, right in other])
    return summed(terms)


def box_of(many, rows):
    check_rows(many, rows)
    told = [((), 1)]
    for row in rows:
        told = product(told, summed([((way,), number) for way, number in enumerate(row)]))
    return told
