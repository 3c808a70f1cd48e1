"""Which sums are one box: rows that span it, or a rule that the sum breaks."""

from flatmeet.flats import frame_of
from flatmeet.rows import times
from flatmeet.steps import check_count, check_size, places_of
from flatmeet.sums import box_of, taken, turn_of


def check_sum(many, size):
    check_count(many)
    check_size(1, many, size)


def number_for(numbers, places):
    return turn_of(places) * numbers.get(tuple(sorted(places)), 0)


# Where the sum is one box, these rows span its flat: for each of the places the row of the sum's numbers for them with
# this one exchanged for each way. Each has the sum's own number at its place and 0 at the others.
def leading_rows(many, numbers, places):
    told = []
    for place in range(len(places)):
        front = places[:place]
        back = places[place + 1:]
        told.append([number_for(numbers, front + (way,) + back) for way in range(many)])
    return told


def spanned(many, size, some):
    check_sum(many, size)
    if not some:
        return [[0] * many for place in range(size)]
    first = some[0]
    rows = frame_of(many, leading_rows(many, dict(some), first[0]))
    whole = box_of(many, rows)
    # The box of the leading rows is not 0 at the first places, so neither is that of their frame.
    often = first[1] // dict(whole)[first[0]]
    if taken(whole, often) != some:
        return None
    return [times(rows[0], often)] + rows[1:]


def rule_sum(numbers, left, right):
    told = 0
    for place, number in enumerate(right):
        one = number_for(numbers, left + (number,))
        other = number_for(numbers, right[:place] + right[place + 1:])
        told += one * other * (1 - 2 * (place % 2))
    return told


def broken(many, size, some):
    check_sum(many, size)
    numbers = dict(some)
    for left in places_of(many, size - 1):
        for right in places_of(many, size + 1):
            if rule_sum(numbers, left, right) != 0:
                return (left, right)
    return None
